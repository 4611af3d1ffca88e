/- Contract: the tokens of a text, by the document's own Scan. -/
import Derived.Test.YtlipncdfmloijaaDoorTokN
namespace Go.Proofs.YtlipncdfmloijaaDoor
open Go.RowKit

theorem bcell {W w1 : World} (hb : Below W.heap.size W w1) : (∀ b o, b < W.heap.size → w1.cell? ⟨b, o, none⟩ = W.cell? ⟨b, o, none⟩) ∧ (∀ b o, b < W.heap.size → w1.frozen? ⟨b, o, none⟩ = W.frozen? ⟨b, o, none⟩) :=
  ⟨fun b o h => hb.cell (p := ⟨b, o, none⟩) h, fun b o h => hb.frozen (p := ⟨b, o, none⟩) h⟩

set_option maxRecDepth 100000 in
set_option maxHeartbeats 400000 in
theorem rscan_huge (s : ByteArray) (w : World) (hs : s.size ≤ maxLen) (hbig : 12000 < s.size) :
    Calls Tryd.prog 26 #[.string s] w fun e w' => e = .returned (.tuple #[.slice none 0 0, .agg #[.int .i64 1, .int .i64 12000]]) ∧ Below w.heap.size w w' := by
  unfold maxLen at hs
  go_enter Tryd.func26, Tryd.ntmps26
  go_wp2_with (go_at_call 33; refine (rF_any _ _ _).mono ?_; rintro e w1 ⟨rfl, hb⟩; obtain ⟨hc, hf⟩ := bcell hb; have hz : w.heap.size < w1.heap.size := (by have := hb.size; simp at this; omega))
  exact bodyPost_ret (v := .tuple #[.slice none 0 0, .agg #[.int .i64 1, .int .i64 12000]]) (by simp [results, Tryd.results26, go_sem, hc]) rfl ⟨rfl, (((Below.refl _ _).alloc (Nat.le_refl _) _).trans (hb.mono (by simp))).setCell (by simp) _ |>.setCell (by simp) _⟩

set_option maxRecDepth 100000 in
set_option maxHeartbeats 40000000 in
theorem rscan_in (s : ByteArray) (w : World) (hs : s.size ≤ 12000) :
    Calls Tryd.prog 26 #[.string s] w fun e w' => ∃ v, e = .returned (scanV v (Tk.scan s.data.toList)) ∧ w'.ownsRow w.heap.size 47 4 v (Tk.scan s.data.toList).1.length (tcells (Tk.scan s.data.toList).1) ∧ Below w.heap.size w w' := by
  obtain ⟨i0, hi, hz0, hz1, hz2⟩ := info_parts Tryd.infoTok
  have d1 : decide ((12000 : Int) < (s.size : Int)) = false := by simp; omega
  have HN := hide (Lib.size_eq s)
  go_enter Tryd.func26, Tryd.ntmps26
  go_wp2
  go_loopw [4, 5] (fun v i wr => ∃ (acc : List Tk.Tok) (p f : Nat), acc.length ≤ p ∧ p ≤ s.size ∧ i = .int .i64 p ∧ Hid (s.size - nx s.data.toList p < f) ∧ Hid (Tk.scan s.data.toList = Tk.comb acc (Tk.tl f (nx s.data.toList p) (s.data.toList.drop (nx s.data.toList p)))) ∧
      Hid (wr.ownsRow (w.heap.size + 1) 47 4 v acc.length (tcells acc)) ∧ Hid (Below (w.heap.size + 1) (w.alloc (Obj.cells #[Value.int IntKind.i64 0, Value.int IntKind.i64 0] 24)) wr)) (fun _ i _ => s.size - (intOf i).toNat)
  case atStart =>
    refine ⟨[], 0, s.size + 1, Nat.zero_le _, Nat.zero_le _, rfl, (by show _ < _; omega), ?_, World.ownsRow_nil _ _ _ _, Below.refl _ _⟩
    show _ = _
    rw [Tk.comb_nil _ (Tk.tl_nofault _ _ _)]
    unfold Tk.scan nx
    rw [if_neg (by rw [← HN.out]; omega), HN.out]
    simp
  case round =>
    obtain ⟨acc, p, f, hap, hps, rfl, HF, HR, HO, HB⟩ := hrel
    have hz := HB.out.size
    simp only [World.size_alloc] at hz
    by_cases hlt : p < s.size
    · by_cases hbl : (s[p].toNat : Int) = 32 ∨ (s[p].toNat : Int) = 9 ∨ (s[p].toNat : Int) = 10 ∨ (s[p].toNat : Int) = 13
      ·
        have hnx := nx_blank s p hlt hbl
        have HF2 : Hid (s.size - nx s.data.toList (p + 1) < f) := by rw [hnx]; exact HF.out
        have HR2 : Hid (Tk.scan s.data.toList = Tk.comb acc (Tk.tl f (nx s.data.toList (p + 1)) (s.data.toList.drop (nx s.data.toList (p + 1))))) := by rw [hnx]; exact HR.out
        clear hnx HR HF
        rcases hbl with h | h | h | h
        all_goals
          as_aux_lemma =>
            go_wp2
            go_roundw
            case rel => exact ⟨acc, p + 1, f, by omega, by omega, by go_num, HF2, HR2, HO, HB⟩
            case measure => simp [intOf]; omega
      · by_cases h35 : (s[p].toNat : Int) = 35
        ·
          as_aux_lemma =>
            have hnx := nx_rem s p hlt h35
            have HNX := hide hnx
            clear hnx hbl
            go_wp2
            go_loop [5] (fun i => ∃ j : Nat, p ≤ j ∧ j ≤ s.size ∧ i = .int .i64 j ∧ Hid (nx s.data.toList p = j + Tk.skip true (s.data.toList.drop j))) (fun i => s.size - (intOf i).toNat)
            case atStart => exact ⟨p, Nat.le_refl _, by omega, rfl, HNX⟩
            case round =>
              obtain ⟨j, hpj, hjs, rfl, HJ⟩ := hrel
              by_cases hjl : j < s.size
              · cases h10 : ((s[j].toNat : Int) == 10)
                · have HJ2 : Hid (nx s.data.toList p = (j + 1) + Tk.skip true (s.data.toList.drop (j + 1))) := HJ.out.trans (rem_step s j hjl h10).symm
                  have h10' : ((s[j].toNat : Int) != 10) = true := by simpa using h10
                  go_wp2
                  go_round
                  case rel => exact ⟨j + 1, by omega, by omega, by go_num, HJ2⟩
                  case measure => simp [intOf]; omega
                · have hE := rem_end s j hjl h10
                  have hJ := HJ.out
                  rw [← hE] at hJ
                  have hne : j ≠ p := by
                    intro e
                    subst e
                    rw [h35] at h10
                    cases h10
                  have HF2 : Hid (s.size - nx s.data.toList j < f) := by rw [← hJ]; exact HF.out
                  have HR2 : Hid (Tk.scan s.data.toList = Tk.comb acc (Tk.tl f (nx s.data.toList j) (s.data.toList.drop (nx s.data.toList j)))) := by rw [← hJ]; exact HR.out
                  have h10' : ((s[j].toNat : Int) != 10) = false := by simpa using h10
                  clear hE hJ
                  go_wp2
                  go_roundw
                  case rel => exact ⟨acc, j, f, by omega, by omega, rfl, HF2, HR2, HO, HB⟩
                  case measure => simp [intOf]; omega
              · have hE := rem_over s j hjl
                have hJ := HJ.out
                rw [← hE] at hJ
                have HF2 : Hid (s.size - nx s.data.toList j < f) := by rw [← hJ]; exact HF.out
                have HR2 : Hid (Tk.scan s.data.toList = Tk.comb acc (Tk.tl f (nx s.data.toList j) (s.data.toList.drop (nx s.data.toList j)))) := by rw [← hJ]; exact HR.out
                clear hE hJ
                go_wp2
                go_roundw
                case rel => exact ⟨acc, j, f, by omega, by omega, rfl, HF2, HR2, HO, HB⟩
                case measure => simp [intOf]; omega
        · have q32 : ((s[p].toNat : Int) == 32) = false := by rw [Bool.eq_false_iff]; intro e; have := beq_iff_eq.1 e; omega
          have q9 : ((s[p].toNat : Int) == 9) = false := by rw [Bool.eq_false_iff]; intro e; have := beq_iff_eq.1 e; omega
          have q10 : ((s[p].toNat : Int) == 10) = false := by rw [Bool.eq_false_iff]; intro e; have := beq_iff_eq.1 e; omega
          have q13 : ((s[p].toNat : Int) == 13) = false := by rw [Bool.eq_false_iff]; intro e; have := beq_iff_eq.1 e; omega
          have q35 : ((s[p].toNat : Int) == 35) = false := by rw [Bool.eq_false_iff]; intro e; have := beq_iff_eq.1 e; omega
          have HSM := hide (fun w => small_any s[p] w)
          have HDG := hide (fun w => digit_any s[p] w)
          have HLO := hide (fun w => long_any s p w (by omega) (by omega))
          have hB : Tk.isB s[p] = false := by rw [Tk.isB_int, q32, q9, q10, q13]; rfl
          have hnx := nx_tok s p hlt q10 q35 hB
          have hll : p < s.data.toList.length := by rw [← HN.out]; exact hlt
          have HFl : s.data.toList.length - nx s.data.toList p < f := by rw [← HN.out]; exact HF.out
          have HST := hide (fun A hA hc => rel_step s.data.toList acc p f A hll hnx hA hc HFl HR.out)
          have HBD := hide (fun A hA hc => rel_bad s.data.toList acc p f A hll hnx hA hc HFl HR.out)
          clear hnx hll HFl hB hbl h35
          cases hL : Tk.isL s[p]
          · cases hD : Tk.isD s[p]
            · have HTS := hide (tok_sign s p hlt hL hD)
              by_cases hee : (s[p].toNat : Int) = 61 ∧ ∃ h2 : p + 1 < s.size, (s[p + 1].toNat : Int) = 61
              ·
                as_aux_lemma =>
                  obtain ⟨h61, h2, h61'⟩ := hee
                  have hst := HST.out ⟨0, 4, 2, 0⟩ (by rw [HTS.out, sign_two s p h2 h61 h61']; rfl) rfl
                  obtain ⟨hm0, hm1, f', hf', hr'⟩ := hst
                  rw [← HN.out] at hm1 hf'
                  dsimp only at hm0 hm1 hf' hr'
                  have HF' := hide hf'
                  have HR' := hide hr'
                  clear hf' hr' HBD HST
                  have hXb : bs ((s.data.toList.drop p).take 2) = ⟨#[61, 61]⟩ := by
                    rw [drop_at s p hlt, drop_at s (p + 1) h2]
                    have e1 : s[p] = 61 := UInt8.toNat_inj.1 (by have : s[p].toNat = 61 := by omega
                                                                 exact this)
                    have e2 : s[p + 1] = 61 := UInt8.toNat_inj.1 (by have : s[p + 1].toNat = 61 := by omega
                                                                     exact this)
                    rw [e1, e2]
                    rfl
                  have HXb := hide hXb
                  have HSM2 : Hid (∀ w, Calls Tryd.prog 45 #[.int .u8 61] w fun e w' => e = .returned (.bool false) ∧ w' = w) := by
                    have h := HSM.out
                    simp only [h61, hL] at h
                    exact h
                  have HDG2 : Hid (∀ w, Calls Tryd.prog 47 #[.int .u8 61] w fun e w' => e = .returned (.bool false) ∧ w' = w) := by
                    have h := HDG.out
                    simp only [h61, hD] at h
                    exact h
                  clear HSM HDG
                  clear hXb HTS HF HR q32 q9 q10 q13 q35
                  go_wp2_with (first | (go_at_call 45; refine (HSM2.out _).mono ?_; rintro e w5 ⟨rfl, hw⟩; subst w5) | (go_at_call 47; refine (HDG2.out _).mono ?_; rintro e w5 ⟨rfl, hw⟩; subst w5) | (at_builtin; (refine wpList_append_own _ rfl _ _ 41 rfl (w.heap.size + 1) 47 i0 (.agg #[.int .i64 0, .int .i64 0, .string ⟨#[]⟩, .int .i64 0]) 4 40 Tryd.underlying41 hi hz0 hz1 hz2 rfl (by decide) _ _ _ rfl (by exact HO.out.alloc _) ⟨wr.heap.size, 0, none⟩ 1 1 [.int .i64 4, .int .i64 p, .string ⟨#[61, 61]⟩, .int .i64 0] rfl rfl ?c1 ?c2 ?c3 ?c4 ?c5 ?_)))
                  case c1 => exact cells_four_new _ _ (by simp) _ _ _ _ _
                  case c2 => intro u hu; simp at hu; rcases hu with rfl | rfl | rfl | rfl <;> rfl
                  case c3 => unfold maxLen; omega
                  case c4 => omega
                  case c5 => simp; omega
                  · intro v' w3 hown' hgrow _
                    obtain ⟨HO3, HB3⟩ := app_step (⟨4, p, (s.data.toList.drop p).take 2, 0⟩ : Tk.Tok) HO.out HB.out (by omega) (by rw [HXb.out]; exact hown') hgrow
                    clear hown' hgrow
                    go_wp2
                    go_roundw
                    case rel => exact ⟨acc ++ [(⟨4, p, (s.data.toList.drop p).take 2, 0⟩ : Tk.Tok)], p + 2, f', by simp; omega, by omega, by go_num, HF', HR', HO3, HB3⟩
                    case measure => simp [intOf]; omega
              · cases hc : Tk.signs.contains s[p]
                ·
                  as_aux_lemma =>
                    have hE := HBD.out ⟨2, 0, 0, 0⟩ (by rw [HTS.out, sign_none s p hlt hc]; rfl) (by show (2 : Int) ≠ 0; decide)
                    have HE := hide hE
                    have hns := (not_congr (signs_cases s[p])).1 (by rw [hc]; simp)
                    have k40 : ((s[p].toNat : Int) == 40) = false := by rw [Bool.eq_false_iff]; intro e; have := beq_iff_eq.1 e; omega
                    have k41 : ((s[p].toNat : Int) == 41) = false := by rw [Bool.eq_false_iff]; intro e; have := beq_iff_eq.1 e; omega
                    have k123 : ((s[p].toNat : Int) == 123) = false := by rw [Bool.eq_false_iff]; intro e; have := beq_iff_eq.1 e; omega
                    have k125 : ((s[p].toNat : Int) == 125) = false := by rw [Bool.eq_false_iff]; intro e; have := beq_iff_eq.1 e; omega
                    have k44 : ((s[p].toNat : Int) == 44) = false := by rw [Bool.eq_false_iff]; intro e; have := beq_iff_eq.1 e; omega
                    have k59 : ((s[p].toNat : Int) == 59) = false := by rw [Bool.eq_false_iff]; intro e; have := beq_iff_eq.1 e; omega
                    have k43 : ((s[p].toNat : Int) == 43) = false := by rw [Bool.eq_false_iff]; intro e; have := beq_iff_eq.1 e; omega
                    have k45 : ((s[p].toNat : Int) == 45) = false := by rw [Bool.eq_false_iff]; intro e; have := beq_iff_eq.1 e; omega
                    have k42 : ((s[p].toNat : Int) == 42) = false := by rw [Bool.eq_false_iff]; intro e; have := beq_iff_eq.1 e; omega
                    have k60 : ((s[p].toNat : Int) == 60) = false := by rw [Bool.eq_false_iff]; intro e; have := beq_iff_eq.1 e; omega
                    have k61 : ((s[p].toNat : Int) == 61) = false := by rw [Bool.eq_false_iff]; intro e; have := beq_iff_eq.1 e; omega
                    clear hE HBD HST HTS hns hc hee HF HR
                    go_wp2_with fail
                    refine (HSM.out _).mono ?_
                    rintro e w5 ⟨rfl, hw⟩
                    subst w5
                    go_wp2_with fail
                    refine (HDG.out _).mono ?_
                    rintro e w6 ⟨rfl, hw⟩
                    subst w6
                    go_wp2_with fail
                    refine (rF_any _ _ _).mono ?_
                    rintro e w9 ⟨rfl, hb8⟩
                    have hz8 := hb8.size
                    have HB8 := hide (HB.out.trans (hb8.mono (by omega)))
                    obtain ⟨c0, c1, f0, f1⟩ := fltAt_of HB8.out
                    clear hb8
                    have hzz : w.heap.size < w9.heap.size := by omega
                    first
                    | go_wp2
                    | skip
                    refine bodyPost_ret (v := scanV (.slice none 0 0) ([], 2, (p : Int))) (by simp [results, Tryd.results26, go_sem, scanV, c0, c1]) rfl ⟨.slice none 0 0, ?_⟩
                    rw [HE.out]
                    refine ⟨rfl, World.ownsRow_nil _ _ _ _, ?_⟩
                    repeat (first | exact ((Below.refl _ w).alloc (Nat.le_refl _) _).trans (HB8.out.mono (by omega)) | refine Below.drew ?_ | refine Below.alloc ?_ (by simp [World.setCell]; omega) _ | refine Below.setCell ?_ (by simp) _)
                ·
                  have hst := HST.out ⟨0, 4, 1, 0⟩ (by rw [HTS.out, sign_one s p hlt hee hc]; rfl) rfl
                  obtain ⟨hm0, hm1, f', hf', hr'⟩ := hst
                  rw [← HN.out] at hm1 hf'
                  dsimp only at hm0 hm1 hf' hr'
                  have HF' := hide hf'
                  have HR' := hide hr'
                  clear hf' hr' HBD HST
                  have hXb : bs ((s.data.toList.drop p).take 1) = s.extract p (p + 1) := by rw [ext_bs]
                  have HXb := hide hXb
                  have hcs := (signs_cases s[p]).1 hc
                  clear hXb HTS HF HR q32 q9 q10 q13 q35 hc
                  by_cases h : (s[p].toNat : Int) = 61
                  · by_cases h2 : p + 1 < s.size
                    · have hne : ((s[p + 1].toNat : Int) == 61) = false := by
                        rw [Bool.eq_false_iff]; intro e
                        exact hee ⟨h, h2, beq_iff_eq.1 e⟩
                      have HSM2 := HSM.out
                      have HDG2 := HDG.out
                      simp only [h, hL] at HSM2
                      simp only [h, hD] at HDG2
                      have HSM3 := hide HSM2
                      have HDG3 := hide HDG2
                      clear hee HSM HDG HSM2 HDG2
                      as_aux_lemma =>
                        go_wp2_with (first | (go_at_call 45; refine (HSM3.out _).mono ?_; rintro e w5 ⟨rfl, hw⟩; subst w5) | (go_at_call 47; refine (HDG3.out _).mono ?_; rintro e w5 ⟨rfl, hw⟩; subst w5) | (at_builtin; (refine wpList_append_own _ rfl _ _ 41 rfl (w.heap.size + 1) 47 i0 (.agg #[.int .i64 0, .int .i64 0, .string ⟨#[]⟩, .int .i64 0]) 4 40 Tryd.underlying41 hi hz0 hz1 hz2 rfl (by decide) _ _ _ rfl (by exact HO.out.alloc _) ⟨wr.heap.size, 0, none⟩ 1 1 [.int .i64 4, .int .i64 p, .string (s.extract p (p + 1)), .int .i64 0] rfl rfl ?c1 ?c2 ?c3 ?c4 ?c5 ?_)))
                        case c1 => exact cells_four_new _ _ (by simp) _ _ _ _ _
                        case c2 => intro u hu; simp at hu; rcases hu with rfl | rfl | rfl | rfl <;> rfl
                        case c3 => unfold maxLen; omega
                        case c4 => omega
                        case c5 => simp; omega
                        · intro v' w3 hown' hgrow _
                          obtain ⟨HO3, HB3⟩ := app_step (⟨4, p, (s.data.toList.drop p).take 1, 0⟩ : Tk.Tok) HO.out HB.out (by omega) (by rw [HXb.out]; exact hown') hgrow
                          clear hown' hgrow
                          go_wp2
                          go_roundw
                          case rel => exact ⟨acc ++ [(⟨4, p, (s.data.toList.drop p).take 1, 0⟩ : Tk.Tok)], p + 1, f', by simp; omega, by omega, by go_num, HF', HR', HO3, HB3⟩
                          case measure => simp [intOf]; omega
                    · have hd2 : decide ((p : Int) + 1 < (s.size : Int)) = false := by simp; omega
                      have HSM2 := HSM.out
                      have HDG2 := HDG.out
                      simp only [h, hL] at HSM2
                      simp only [h, hD] at HDG2
                      have HSM3 := hide HSM2
                      have HDG3 := hide HDG2
                      clear hee HSM HDG HSM2 HDG2
                      as_aux_lemma =>
                        go_wp2_with (first | (go_at_call 45; refine (HSM3.out _).mono ?_; rintro e w5 ⟨rfl, hw⟩; subst w5) | (go_at_call 47; refine (HDG3.out _).mono ?_; rintro e w5 ⟨rfl, hw⟩; subst w5) | (at_builtin; (refine wpList_append_own _ rfl _ _ 41 rfl (w.heap.size + 1) 47 i0 (.agg #[.int .i64 0, .int .i64 0, .string ⟨#[]⟩, .int .i64 0]) 4 40 Tryd.underlying41 hi hz0 hz1 hz2 rfl (by decide) _ _ _ rfl (by exact HO.out.alloc _) ⟨wr.heap.size, 0, none⟩ 1 1 [.int .i64 4, .int .i64 p, .string (s.extract p (p + 1)), .int .i64 0] rfl rfl ?c1 ?c2 ?c3 ?c4 ?c5 ?_)))
                        case c1 => exact cells_four_new _ _ (by simp) _ _ _ _ _
                        case c2 => intro u hu; simp at hu; rcases hu with rfl | rfl | rfl | rfl <;> rfl
                        case c3 => unfold maxLen; omega
                        case c4 => omega
                        case c5 => simp; omega
                        · intro v' w3 hown' hgrow _
                          obtain ⟨HO3, HB3⟩ := app_step (⟨4, p, (s.data.toList.drop p).take 1, 0⟩ : Tk.Tok) HO.out HB.out (by omega) (by rw [HXb.out]; exact hown') hgrow
                          clear hown' hgrow
                          go_wp2
                          go_roundw
                          case rel => exact ⟨acc ++ [(⟨4, p, (s.data.toList.drop p).take 1, 0⟩ : Tk.Tok)], p + 1, f', by simp; omega, by omega, by go_num, HF', HR', HO3, HB3⟩
                          case measure => simp [intOf]; omega
                  · have h61 := h
                    clear h
                    rcases hcs with h | h | h | h | h | h | h | h | h | h | h
                    all_goals first | exact absurd h h61 | skip
                    all_goals
                      clear h61
                      have HSM2 := HSM.out
                      have HDG2 := HDG.out
                      simp only [h, hL] at HSM2
                      simp only [h, hD] at HDG2
                      have HSM3 := hide HSM2
                      have HDG3 := hide HDG2
                      clear hee HSM HDG HSM2 HDG2
                      as_aux_lemma =>
                        go_wp2_with (first | (go_at_call 45; refine (HSM3.out _).mono ?_; rintro e w5 ⟨rfl, hw⟩; subst w5) | (go_at_call 47; refine (HDG3.out _).mono ?_; rintro e w5 ⟨rfl, hw⟩; subst w5) | (at_builtin; (refine wpList_append_own _ rfl _ _ 41 rfl (w.heap.size + 1) 47 i0 (.agg #[.int .i64 0, .int .i64 0, .string ⟨#[]⟩, .int .i64 0]) 4 40 Tryd.underlying41 hi hz0 hz1 hz2 rfl (by decide) _ _ _ rfl (by exact HO.out.alloc _) ⟨wr.heap.size, 0, none⟩ 1 1 [.int .i64 4, .int .i64 p, .string (s.extract p (p + 1)), .int .i64 0] rfl rfl ?c1 ?c2 ?c3 ?c4 ?c5 ?_)))
                        case c1 => exact cells_four_new _ _ (by simp) _ _ _ _ _
                        case c2 => intro u hu; simp at hu; rcases hu with rfl | rfl | rfl | rfl <;> rfl
                        case c3 => unfold maxLen; omega
                        case c4 => omega
                        case c5 => simp; omega
                        · intro v' w3 hown' hgrow _
                          obtain ⟨HO3, HB3⟩ := app_step (⟨4, p, (s.data.toList.drop p).take 1, 0⟩ : Tk.Tok) HO.out HB.out (by omega) (by rw [HXb.out]; exact hown') hgrow
                          clear hown' hgrow
                          go_wp2
                          go_roundw
                          case rel => exact ⟨acc ++ [(⟨4, p, (s.data.toList.drop p).take 1, 0⟩ : Tk.Tok)], p + 1, f', by simp; omega, by omega, by go_num, HF', HR', HO3, HB3⟩
                          case measure => simp [intOf]; omega
            ·
              as_aux_lemma =>
                have hrp := run_pos s p hlt (by rw [hD]; simp)
                have hrl := Tk.run_le (s.data.toList.drop p)
                rw [List.length_drop, ← HN.out] at hrl
                have htk := tok_num s p hlt hD
                unfold Tk.numAns at htk
                have hXs : ((s.data.toList.drop p).take (Tk.run (s.data.toList.drop p))).length = Tk.run (s.data.toList.drop p) := by rw [List.length_take, List.length_drop, ← HN.out]; omega
                rw [hXs] at htk
                clear hXs
                generalize Tk.run (s.data.toList.drop p) = r at *
                obtain ⟨X, hX⟩ : ∃ X, X = s.extract p (p + r) := ⟨_, rfl⟩
                have hXl : X.data.toList = (s.data.toList.drop p).take r := by rw [hX, ext_list, Nat.add_sub_cancel_left]
                have hXb : bs ((s.data.toList.drop p).take r) = X := by rw [hX, ext_bs]
                have hXz : X.size ≤ 1099511627776 := by rw [hX, ByteArray.size_extract]; omega
                have HNM := hide (fun w => num_any X w hXz)
                rw [hXl] at HNM
                have HX := hide hX
                have HXb := hide hXb
                clear hX hXl hXb hXz HF HR
                cases hn : Tk.numOf ((s.data.toList.drop p).take r) with
                | none =>
                  rw [hn] at HNM htk
                  have hE := HBD.out ⟨3, 0, 0, 0⟩ htk (by show (3 : Int) ≠ 0; decide)
                  have HE := hide hE
                  clear hE HBD HST htk hn
                  go_wp2_with fail
                  refine (HSM.out _).mono ?_
                  rintro e w5 ⟨rfl, hw⟩
                  subst w5
                  go_wp2_with fail
                  refine (HDG.out _).mono ?_
                  rintro e w6 ⟨rfl, hw⟩
                  subst w6
                  go_wp2_with fail
                  refine (HLO.out _).mono ?_
                  rintro e w7 ⟨rfl, hw⟩
                  subst w7
                  go_wp2_with fail
                  rw [← HX.out]
                  refine (HNM.out _).mono ?_
                  rintro e w8 ⟨rfl, hw⟩
                  subst w8
                  go_wp2_with fail
                  refine (rF_any _ _ _).mono ?_
                  rintro e w9 ⟨rfl, hb8⟩
                  have hz8 := hb8.size
                  have HB8 := hide (HB.out.trans (hb8.mono (by omega)))
                  obtain ⟨c0, c1, f0, f1⟩ := fltAt_of HB8.out
                  clear hb8
                  have hzz : w.heap.size < w9.heap.size := by omega
                  first
                  | go_wp2
                  | skip
                  refine bodyPost_ret (v := scanV (.slice none 0 0) ([], 3, (p : Int))) (by simp [results, Tryd.results26, go_sem, scanV, c0, c1]) rfl ⟨.slice none 0 0, ?_⟩
                  rw [HE.out]
                  refine ⟨rfl, World.ownsRow_nil _ _ _ _, ?_⟩
                  repeat (first | exact ((Below.refl _ w).alloc (Nat.le_refl _) _).trans (HB8.out.mono (by omega)) | refine Below.drew ?_ | refine Below.alloc ?_ (by simp [World.setCell]; omega) _ | refine Below.setCell ?_ (by simp) _)
                | some n =>
                  rw [hn] at HNM htk
                  have hn0 := numOf_nonneg _ _ hn
                  have hst := HST.out ⟨0, 3, r, n⟩ htk rfl
                  obtain ⟨hm0, hm1, f', hf', hr'⟩ := hst
                  rw [← HN.out] at hm1 hf'
                  dsimp only at hm0 hm1 hf' hr'
                  have HF' := hide hf'
                  have HR' := hide hr'
                  clear hf' hr' HBD HST
                  have dn : decide (n < 0) = false := by simp; omega
                  clear htk hn
                  go_wp2_with fail
                  refine (HSM.out _).mono ?_
                  rintro e w5 ⟨rfl, hw⟩
                  subst w5
                  go_wp2_with fail
                  refine (HDG.out _).mono ?_
                  rintro e w6 ⟨rfl, hw⟩
                  subst w6
                  go_wp2_with fail
                  refine (HLO.out _).mono ?_
                  rintro e w7 ⟨rfl, hw⟩
                  subst w7
                  go_wp2_with fail
                  rw [← HX.out]
                  refine (HNM.out _).mono ?_
                  rintro e w8 ⟨rfl, hw⟩
                  subst w8
                  have hX2 := HX.out.symm
                  go_wp2_with (first | (go_at_call 45; refine (HSM.out _).mono ?_; rintro e w5 ⟨rfl, hw⟩; subst w5) | (go_at_call 47; refine (HDG.out _).mono ?_; rintro e w5 ⟨rfl, hw⟩; subst w5) | (at_builtin; (refine wpList_append_own _ rfl _ _ 41 rfl (w.heap.size + 1) 47 i0 (.agg #[.int .i64 0, .int .i64 0, .string ⟨#[]⟩, .int .i64 0]) 4 40 Tryd.underlying41 hi hz0 hz1 hz2 rfl (by decide) _ _ _ rfl (by exact HO.out.alloc _) ⟨wr.heap.size, 0, none⟩ 1 1 [.int .i64 3, .int .i64 p, .string X, .int .i64 n] rfl rfl ?c1 ?c2 ?c3 ?c4 ?c5 ?_)))
                  case c1 => exact cells_four_new _ _ (by simp) _ _ _ _ _
                  case c2 => intro u hu; simp at hu; rcases hu with rfl | rfl | rfl | rfl <;> rfl
                  case c3 => unfold maxLen; omega
                  case c4 => omega
                  case c5 => simp; omega
                  · intro v' w3 hown' hgrow _
                    obtain ⟨HO3, HB3⟩ := app_step (⟨3, p, (s.data.toList.drop p).take r, n⟩ : Tk.Tok) HO.out HB.out (by omega) (by rw [HXb.out]; exact hown') hgrow
                    clear hown' hgrow
                    go_wp2
                    go_roundw
                    case rel => exact ⟨acc ++ [(⟨3, p, (s.data.toList.drop p).take r, n⟩ : Tk.Tok)], p + r, f', by simp; omega, by omega, by go_num, HF', HR', HO3, HB3⟩
                    case measure => simp [intOf]; omega
          ·
            as_aux_lemma =>
              have hrp := run_pos s p hlt (by rw [hL]; rfl)
              have hrl := Tk.run_le (s.data.toList.drop p)
              rw [List.length_drop, ← HN.out] at hrl
              have htk := tok_name s p hlt hL
              unfold Tk.nameAns at htk
              have hXs : ((s.data.toList.drop p).take (Tk.run (s.data.toList.drop p))).length = Tk.run (s.data.toList.drop p) := by rw [List.length_take, List.length_drop, ← HN.out]; omega
              rw [hXs] at htk
              clear hXs HDG
              generalize Tk.run (s.data.toList.drop p) = r at *
              obtain ⟨X, hX⟩ : ∃ X, X = s.extract p (p + r) := ⟨_, rfl⟩
              have hXl : X.data.toList = (s.data.toList.drop p).take r := by rw [hX, ext_list, Nat.add_sub_cancel_left]
              have hXb : bs ((s.data.toList.drop p).take r) = X := by rw [hX, ext_bs]
              have HIW := hide (fun w => isWord_any X w)
              rw [hXl] at HIW
              have HX := hide hX
              have HXb := hide hXb
              have HTK := hide htk
              clear hX hXl hXb htk HF HR
              cases hW : Tk.isW ((s.data.toList.drop p).take r)
              · rw [hW] at HIW
                by_cases h12 : 12 < r
                · have hE := HBD.out ⟨4, 0, 0, 0⟩ (by rw [HTK.out, hW, if_neg (by simp), if_pos h12]) (by show (4 : Int) ≠ 0; decide)
                  have HE := hide hE
                  have d12 : decide ((12 : Int) < (r : Int)) = true := by simp; omega
                  clear hE HBD HST HTK hW
                  go_wp2_with fail
                  refine (HSM.out _).mono ?_
                  rintro e w5 ⟨rfl, hw⟩
                  subst hw
                  go_wp2_with fail
                  refine (HLO.out _).mono ?_
                  rintro e w6 ⟨rfl, hw⟩
                  subst hw
                  go_wp2_with fail
                  rw [← HX.out]
                  refine (HIW.out _).mono ?_
                  rintro e w7 ⟨rfl, hb7⟩
                  have hz7 := hb7.size
                  have HB7 := hide (HB.out.trans (hb7.mono (by omega)))
                  clear hb7
                  go_wp2_with fail
                  refine (rF_any _ _ _).mono ?_
                  rintro e w8 ⟨rfl, hb8⟩
                  have hz8 := hb8.size
                  have HB8 := hide (HB7.out.trans (hb8.mono (by omega)))
                  obtain ⟨c0, c1, f0, f1⟩ := fltAt_of HB8.out
                  clear hb8
                  have hzz : w.heap.size < w8.heap.size := by omega
                  first
                  | go_wp2
                  | skip
                  refine bodyPost_ret (v := scanV (.slice none 0 0) ([], 4, (p : Int))) (by simp [results, Tryd.results26, go_sem, scanV, c0, c1]) rfl ⟨.slice none 0 0, ?_⟩
                  rw [HE.out]
                  refine ⟨rfl, World.ownsRow_nil _ _ _ _, ?_⟩
                  repeat (first | exact ((Below.refl _ w).alloc (Nat.le_refl _) _).trans (HB8.out.mono (by omega)) | refine Below.drew ?_ | refine Below.alloc ?_ (by simp [World.setCell]; omega) _ | refine Below.setCell ?_ (by simp) _)
                · have hst := HST.out ⟨0, 2, r, 0⟩ (by rw [HTK.out, hW, if_neg (by simp), if_neg h12]) rfl
                  have d12 : decide ((12 : Int) < (r : Int)) = false := by simp; omega
                  obtain ⟨hm0, hm1, f', hf', hr'⟩ := hst
                  rw [← HN.out] at hm1 hf'
                  dsimp only at hm0 hm1 hf' hr'
                  have HF' := hide hf'
                  have HR' := hide hr'
                  clear hf' hr' HBD HST HTK hW
                  go_wp2_with fail
                  refine (HSM.out _).mono ?_
                  rintro e w5 ⟨rfl, hw⟩
                  subst hw
                  go_wp2_with fail
                  refine (HLO.out _).mono ?_
                  rintro e w6 ⟨rfl, hw⟩
                  subst hw
                  go_wp2_with fail
                  rw [← HX.out]
                  refine (HIW.out _).mono ?_
                  rintro e w7 ⟨rfl, hb7⟩
                  have hz7 := hb7.size
                  have HO2 := hide (own_below HO.out hb7)
                  have HB2 := hide (HB.out.trans (hb7.mono (by omega)))
                  clear hb7
                  have hX2 := HX.out.symm
                  go_wp2_with (at_builtin; (refine wpList_append_own _ rfl _ _ 41 rfl (w.heap.size + 1) 47 i0 (.agg #[.int .i64 0, .int .i64 0, .string ⟨#[]⟩, .int .i64 0]) 4 40 Tryd.underlying41 hi hz0 hz1 hz2 rfl (by decide) _ _ _ rfl (by exact HO2.out.alloc _) ⟨w7.heap.size, 0, none⟩ 1 1 [.int .i64 2, .int .i64 p, .string X, .int .i64 0] rfl rfl ?c1 ?c2 ?c3 ?c4 ?c5 ?_))
                  case c1 => exact cells_four_new _ _ (by simp) _ _ _ _ _
                  case c2 => intro u hu; simp at hu; rcases hu with rfl | rfl | rfl | rfl <;> rfl
                  case c3 => unfold maxLen; omega
                  case c4 => omega
                  case c5 => simp; omega
                  · intro v' w3 hown' hgrow _
                    obtain ⟨HO3, HB3⟩ := app_step (⟨2, p, (s.data.toList.drop p).take r, 0⟩ : Tk.Tok) HO2.out HB2.out (by omega) (by rw [HXb.out]; exact hown') hgrow
                    clear hown' hgrow
                    go_wp2
                    go_roundw
                    case rel => exact ⟨acc ++ [(⟨2, p, (s.data.toList.drop p).take r, 0⟩ : Tk.Tok)], p + r, f', by simp; omega, by omega, by go_num, HF', HR', HO3, HB3⟩
                    case measure => simp [intOf]; omega
              · rw [hW] at HIW
                have hst := HST.out ⟨0, 1, r, 0⟩ (by rw [HTK.out, hW, if_pos rfl]) rfl
                obtain ⟨hm0, hm1, f', hf', hr'⟩ := hst
                rw [← HN.out] at hm1 hf'
                dsimp only at hm0 hm1 hf' hr'
                have HF' := hide hf'
                have HR' := hide hr'
                clear hf' hr' HBD HST HTK hW
                go_wp2_with fail
                refine (HSM.out _).mono ?_
                rintro e w5 ⟨rfl, hw⟩
                subst hw
                go_wp2_with fail
                refine (HLO.out _).mono ?_
                rintro e w6 ⟨rfl, hw⟩
                subst hw
                go_wp2_with fail
                rw [← HX.out]
                refine (HIW.out _).mono ?_
                rintro e w7 ⟨rfl, hb7⟩
                have hz7 := hb7.size
                have HO2 := hide (own_below HO.out hb7)
                have HB2 := hide (HB.out.trans (hb7.mono (by omega)))
                clear hb7
                have hX2 := HX.out.symm
                go_wp2_with (at_builtin; (refine wpList_append_own _ rfl _ _ 41 rfl (w.heap.size + 1) 47 i0 (.agg #[.int .i64 0, .int .i64 0, .string ⟨#[]⟩, .int .i64 0]) 4 40 Tryd.underlying41 hi hz0 hz1 hz2 rfl (by decide) _ _ _ rfl (by exact HO2.out.alloc _) ⟨w7.heap.size, 0, none⟩ 1 1 [.int .i64 1, .int .i64 p, .string X, .int .i64 0] rfl rfl ?c1 ?c2 ?c3 ?c4 ?c5 ?_))
                case c1 => exact cells_four_new _ _ (by simp) _ _ _ _ _
                case c2 => intro u hu; simp at hu; rcases hu with rfl | rfl | rfl | rfl <;> rfl
                case c3 => unfold maxLen; omega
                case c4 => omega
                case c5 => simp; omega
                · intro v' w3 hown' hgrow _
                  obtain ⟨HO3, HB3⟩ := app_step (⟨1, p, (s.data.toList.drop p).take r, 0⟩ : Tk.Tok) HO2.out HB2.out (by omega) (by rw [HXb.out]; exact hown') hgrow
                  clear hown' hgrow
                  go_wp2
                  go_roundw
                  case rel => exact ⟨acc ++ [(⟨1, p, (s.data.toList.drop p).take r, 0⟩ : Tk.Tok)], p + r, f', by simp; omega, by omega, by go_num, HF', HR', HO3, HB3⟩
                  case measure => simp [intOf]; omega
    · obtain rfl : p = s.size := by omega
      as_aux_lemma =>
        have HE : Hid (Tk.scan s.data.toList = (acc, 0, 0)) := by
          have h1 := HR.out
          have h2 := (nx_le s.data.toList s.size (by rw [← HN.out]; omega)).1
          rw [List.drop_of_length_le (by rw [← HN.out]; omega), Tk.tl_nil] at h1
          show _ = _
          rw [h1]
          simp [Tk.comb]
        obtain ⟨c0, c1, f0, f1⟩ := fltAt_of HB.out
        go_wp2
        refine bodyPost_ret (v := scanV u4 (acc, 0, 0)) (by simp [results, Tryd.results26, go_sem, scanV, c0, c1]) rfl ⟨u4, ?_⟩
        rw [HE.out]
        refine ⟨rfl, ?_, ?_⟩
        · exact own_down (ownsRow_setCell_below (ownsRow_setCell_below HO.out (a := ⟨w.heap.size, 0, none⟩) (by simp) _) (a := ⟨w.heap.size, 1, none⟩) (by simp) _) (by omega)
        · exact ((((Below.refl _ w).alloc (Nat.le_refl _) _).trans (HB.out.mono (by omega))).setCell (Nat.le_refl _) _).setCell (Nat.le_refl _) _
end Go.Proofs.YtlipncdfmloijaaDoor

/- The law TokenCovers: it answers true. -/
import Derived.Test.YtlipncdfmloijaaDoorTokG
import Derived.Test.YtlipncdfmloijaaDoorTokH
namespace Go.Proofs.YtlipncdfmloijaaDoor
open Go.RowKit

theorem blank_cases (n : Int) (h : (n == 32 || n == 9 || n == 10 || n == 13) = true) : n = 32 ∨ n = 9 ∨ n = 10 ∨ n = 13 := by
  simp only [Bool.or_eq_true, beq_iff_eq] at h
  omega

set_option maxHeartbeats 400000 in
theorem cov_huge (s : ByteArray) (w : World) (hw : WTab w) (hs : s.size ≤ maxLen) (hbig : 12000 < s.size) :
    Calls Tryd.prog 8 #[.string s] w fun e w' => e = .returned (.bool true) ∧ Below w.heap.size w w' := by
  unfold maxLen at hs
  have HW := hide hw
  clear hw
  go_enter Tryd.func8, Tryd.ntmps8
  go_wp2_with fail
  refine (begun_any _ HW.out).mono ?_
  rintro e w1 ⟨rfl, hb1⟩
  go_wp2
  go_ret
  exact ⟨rfl, hb1⟩

set_option maxHeartbeats 400000 in
theorem cov_bad (s : ByteArray) (w : World) (hw : WTab w) (hs : s.size ≤ 12000) (hf : (Tk.scan s.data.toList).2.1 ≠ 0) :
    Calls Tryd.prog 8 #[.string s] w fun e w' => e = .returned (.bool true) ∧ Below w.heap.size w w' := by
  have hz := Lib.size_eq s
  have h1 := Tk.scan_where s.data.toList (by omega)
  have h2 := Tk.scan_none s.data.toList (by omega) hf
  rw [← hz] at h1
  have HC := hide (fun w hw => scan_in s w hw hs)
  have d1 : decide ((12000 : Int) < (s.size : Int)) = false := by simp; omega
  have HW := hide hw
  clear hw hz
  go_enter Tryd.func8, Tryd.ntmps8
  go_wp2_with fail
  refine (begun_any _ HW.out).mono ?_
  rintro e w1 ⟨rfl, hb1⟩
  go_wp2_with fail
  refine (HC.out _ (HW.out.below hb1)).mono ?_
  rintro e w2 ⟨v, rfl, hown, hb2⟩
  rw [h2] at hown
  obtain ⟨va, vc, rfl⟩ : ∃ a c, v = .slice a 0 c := by
    rcases hown.2 with ⟨h, _⟩ | ⟨g, cap, cur, h, _⟩
    · exact ⟨_, _, h⟩
    · exact ⟨_, _, h⟩
  have hz1 := hb1.size
  have HB := hide (hb1.trans (hb2.mono hz1))
  clear hown hb1 hb2 h2
  unfold scanV
  generalize (Tk.scan s.data.toList).2.1 = c at *
  generalize (Tk.scan s.data.toList).2.2 = r at *
  obtain ⟨h3, h4⟩ := h1
  have d2 : (c != 0) = true := by simpa using hf
  have d3 : decide (0 ≤ r) = true := by simpa using h3
  have d4 : decide (r ≤ (s.size : Int)) = true := by simpa using h4
  clear hf
  go_wp2
  go_ret
  exact ⟨rfl, HB.out.alloc HB.out.size _⟩

set_option maxRecDepth 100000 in
set_option maxHeartbeats 1000000 in
theorem cov_good (s : ByteArray) (w : World) (hw : WTab w) (hs : s.size ≤ 12000) (hf : (Tk.scan s.data.toList).2.1 = 0) :
    Calls Tryd.prog 8 #[.string s] w fun e w' => e = .returned (.bool true) ∧ Below w.heap.size w w' := by
  have hz := Lib.size_eq s
  have hcov := Tk.cov_scan s.data.toList (by omega) hf
  have hcnt := Tk.scan_count s.data.toList
  rw [← hz] at hcnt
  have HC := hide (fun w hw => scan_in s w hw hs)
  have d1 : decide ((12000 : Int) < (s.size : Int)) = false := by simp; omega
  have HW := hide hw
  have HZ := hide hz
  clear hw hz
  go_enter Tryd.func8, Tryd.ntmps8
  go_wp2_with fail
  refine (begun_any _ HW.out).mono ?_
  rintro e w1 ⟨rfl, hb1⟩
  go_wp2_with fail
  refine (HC.out _ (HW.out.below hb1)).mono ?_
  rintro e w2 ⟨v, rfl, hown, hb2⟩
  have hz1 := hb1.size
  have HB := hide (hb1.trans (hb2.mono hz1))
  unfold scanV
  rw [hf]
  generalize (Tk.scan s.data.toList).1 = ts at *
  generalize (Tk.scan s.data.toList).2.2 = r at *
  obtain ⟨va, vc, rfl⟩ : ∃ a c, v = .slice a ts.length c := by
    rcases hown.2 with ⟨h, h0⟩ | ⟨g, cap, cur, h, _⟩
    · exact ⟨none, 0, by rw [h0]; exact h⟩
    · exact ⟨_, _, h⟩
  have HO := hide hown
  have HCV := hide hcov
  clear hown hb1 hb2 hcov hf
  go_wp2
  go_loopw [5, 6] (fun at' i wr => ∃ (k a : Nat), k ≤ ts.length + 1 ∧ a ≤ s.size ∧ at' = .int .i64 a ∧ i = .int .i64 k ∧ Hid (k ≤ ts.length → Tk.Cov s.data.toList a (ts.drop k)) ∧ ∃ n, wr = (w2.alloc (Obj.cells #[Value.int IntKind.i64 0, Value.int IntKind.i64 r] 24)).drewN n) (fun _ i _ => ts.length + 1 - (intOf i).toNat)
  case atStart => exact ⟨0, 0, by omega, by omega, rfl, rfl, (fun _ => HCV.out), 0, rfl⟩
  case round =>
    obtain ⟨k, a, hk, ha, rfl, rfl, HV, nn, rfl⟩ := hrel
    by_cases hlt : k < ts.length
    · have hx : ts[k]? = some (ts[k]) := List.getElem?_eq_getElem hlt
      obtain ⟨g, cap, hgv, _, hg, _, _, hT⟩ := own_tat HO.out (by omega)
      simp only [Value.slice.injEq] at hgv
      obtain ⟨rfl, _, rfl⟩ := hgv
      have hcv := HV.out (by omega)
      rw [List.drop_eq_getElem_cons hlt] at hcv
      obtain ⟨hv1, hv2, hv3, hv4, hv5⟩ := hcv
      obtain ⟨_, k1, k2, _⟩ := hT k _ hx
      rw [← HZ.out] at hv3
      generalize ts[k] = t at *
      have HTO : Hid (a + Tk.skip false (s.data.toList.drop a) = t.at') := hv1.symm
      have hat : a ≤ t.at' := by rw [hv1]; exact Nat.le_add_right _ _
      have htn : (bs t.text).size = t.text.length := by rw [Lib.size_eq]; simp [bs]
      have hEq : s.extract t.at' (t.at' + t.text.length) = bs t.text := by rw [ext_bs, ← hv4]
      have HV5 := hide hv5
      clear hv1 hv4 hv5 hx hT HV
      have d5 : decide ((t.at' : Int) < (a : Int)) = false := by simp; exact hat
      have d6 : decide ((s.size : Int) - (t.at' : Int) < (t.text.length : Int)) = false := by simp; omega
      have d7 : ((t.text.length : Int) == 0) = false := by rw [Bool.eq_false_iff]; intro h; have := beq_iff_eq.1 h; omega
      go_wp2
      go_loop [5, 8] (fun at' r => ∃ (j : Nat) (q : Bool), j ≤ t.at' ∧ at' = .int .i64 j ∧ r = .bool q ∧ Hid (j + Tk.skip q (s.data.toList.drop j) = t.at')) (fun at' _ => t.at' - (intOf at').toNat)
      case atStart => exact ⟨a, false, by omega, rfl, rfl, HTO.out⟩
      case round =>
        obtain ⟨j, q, hj, rfl, rfl, HK⟩ := hrel
        by_cases hjt : j < t.at'
        · have hjs : j < s.size := by omega
          have NX : ∀ q' : Bool, Tk.skip q (s.data.toList.drop j) = Tk.skip q' (s.data.toList.drop (j + 1)) + 1 → Hid (j + 1 + Tk.skip q' (s.data.toList.drop (j + 1)) = t.at') := fun q' hq => by
            have h1 := HK.out
            rw [hq] at h1
            show _ = _
            omega
          cases h10 : ((s[j].toNat : Int) == 10)
          · cases h35 : ((s[j].toNat : Int) == 35)
            · cases hg : (!q && !Tk.isB s[j])
              · have HK2 := NX q (skip_else s q j hjs h10 h35 hg)
                clear NX
                cases q
                · have hB : Tk.isB s[j] = true := by simpa using hg
                  rw [Tk.isB_int] at hB
                  clear hg
                  rcases blank_cases _ hB with h | h | h | h
                  all_goals
                    rw [h] at h10 h35
                    clear hB
                    have e0 := h
                    go_wp2
                    go_round
                    case rel => exact ⟨j + 1, _, by omega, by go_num, rfl, HK2⟩
                    case measure => simp [intOf]; omega
                · clear hg
                  go_wp2
                  go_round
                  case rel => exact ⟨j + 1, _, by omega, by go_num, rfl, HK2⟩
                  case measure => simp [intOf]; omega
              · exfalso
                have h1 := HK.out
                rw [skip_stop s q j hjs h10 h35 hg] at h1
                omega
            · have HK2 := NX true (skip_rem s q j hjs h10 h35)
              clear NX
              go_wp2
              go_round
              case rel => exact ⟨j + 1, _, by omega, by go_num, rfl, HK2⟩
              case measure => simp [intOf]; omega
          · have HK2 := NX false (skip_nl s q j hjs h10)
            have h35 : ((s[j].toNat : Int) == 35) = false := by
              have : (s[j].toNat : Int) = 10 := by simpa using h10
              rw [this]; rfl
            clear NX
            have e10 : (s[j].toNat : Int) = 10 := by simpa using h10
            go_wp2
            go_round
            case rel => exact ⟨j + 1, _, by omega, by go_num, rfl, HK2⟩
            case measure => simp [intOf]; omega
        · obtain rfl : j = t.at' := by omega
          go_wp2
          go_quiet (fail)
          go_wp2
          go_roundw
          case rel => exact ⟨k + 1, t.at' + t.text.length, by omega, by omega, by go_num, by go_num, (fun _ => HV5.out), _, rfl⟩
          case measure => simp [intOf]; omega
    · by_cases hlt2 : k = ts.length
      · subst hlt2
        have hcv := HV.out (by omega)
        rw [List.drop_of_length_le (Nat.le_refl _)] at hcv
        have HTO : Hid (a + Tk.skip false (s.data.toList.drop a) = s.size) := by rw [HZ.out]; exact hcv
        have d5 : decide ((s.size : Int) < (a : Int)) = false := by simp; omega
        clear hcv HV
        go_wp2
        go_loop [5, 8] (fun at' r => ∃ (j : Nat) (q : Bool), j ≤ s.size ∧ at' = .int .i64 j ∧ r = .bool q ∧ Hid (j + Tk.skip q (s.data.toList.drop j) = s.size)) (fun at' _ => s.size - (intOf at').toNat)
        case atStart => exact ⟨a, false, by omega, rfl, rfl, HTO.out⟩
        case round =>
          obtain ⟨j, q, hj, rfl, rfl, HK⟩ := hrel
          by_cases hjt : j < s.size
          · have hjs : j < s.size := by omega
            have NX : ∀ q' : Bool, Tk.skip q (s.data.toList.drop j) = Tk.skip q' (s.data.toList.drop (j + 1)) + 1 → Hid (j + 1 + Tk.skip q' (s.data.toList.drop (j + 1)) = s.size) := fun q' hq => by
              have h1 := HK.out
              rw [hq] at h1
              show _ = _
              omega
            cases h10 : ((s[j].toNat : Int) == 10)
            · cases h35 : ((s[j].toNat : Int) == 35)
              · cases hg : (!q && !Tk.isB s[j])
                · have HK2 := NX q (skip_else s q j hjs h10 h35 hg)
                  clear NX
                  cases q
                  · have hB : Tk.isB s[j] = true := by simpa using hg
                    rw [Tk.isB_int] at hB
                    clear hg
                    rcases blank_cases _ hB with h | h | h | h
                    all_goals
                      rw [h] at h10 h35
                      clear hB
                      have e0 := h
                      go_wp2
                      go_round
                      case rel => exact ⟨j + 1, _, by omega, by go_num, rfl, HK2⟩
                      case measure => simp [intOf]; omega
                  · clear hg
                    go_wp2
                    go_round
                    case rel => exact ⟨j + 1, _, by omega, by go_num, rfl, HK2⟩
                    case measure => simp [intOf]; omega
                · exfalso
                  have h1 := HK.out
                  rw [skip_stop s q j hjs h10 h35 hg] at h1
                  omega
              · have HK2 := NX true (skip_rem s q j hjs h10 h35)
                clear NX
                go_wp2
                go_round
                case rel => exact ⟨j + 1, _, by omega, by go_num, rfl, HK2⟩
                case measure => simp [intOf]; omega
            · have HK2 := NX false (skip_nl s q j hjs h10)
              have h35 : ((s[j].toNat : Int) == 35) = false := by
                have : (s[j].toNat : Int) = 10 := by simpa using h10
                rw [this]; rfl
              clear NX
              have e10 : (s[j].toNat : Int) = 10 := by simpa using h10
              go_wp2
              go_round
              case rel => exact ⟨j + 1, _, by omega, by go_num, rfl, HK2⟩
              case measure => simp [intOf]; omega
          · obtain rfl : j = s.size := by omega
            go_wp2
            go_roundw
            case rel => exact ⟨ts.length + 1, s.size, by omega, by omega, by go_num, by go_num, (fun h => by omega), _, rfl⟩
            case measure => simp [intOf]
      · have hk2 : k = ts.length + 1 := by omega
        subst hk2
        go_wp2
        go_ret
        exact ⟨rfl, below_drewN (HB.out.alloc HB.out.size _) _⟩

theorem covers_any (s : ByteArray) (w : World) (hw : WTab w) (hs : s.size ≤ maxLen) :
    Calls Tryd.prog 8 #[.string s] w fun e w' => e = .returned (.bool true) ∧ Below w.heap.size w w' := by
  by_cases hbig : 12000 < s.size
  · exact cov_huge s w hw hs hbig
  · by_cases hf : (Tk.scan s.data.toList).2.1 = 0
    · exact cov_good s w hw (by omega) hf
    · exact cov_bad s w hw (by omega) hf
end Go.Proofs.YtlipncdfmloijaaDoor

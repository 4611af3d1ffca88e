/- Contracts: a copy of a text has its bytes; where letters and digits end; where blanks and remarks end. -/
import Derived.Test.YtlipncdfmloijaaDoorTokA
import Derived.Test.YtlipncdfmloijaaDoorTokL
namespace Go.Proofs.YtlipncdfmloijaaDoor
open Go.RowKit

set_option maxHeartbeats 400000 in
theorem clone_any (s : ByteArray) (w : World) (hlim : s.size ≤ 281474976710656) :
    Calls Tryd.prog 60 #[.string s] w fun e w' => e = .returned (.string s) ∧ Below w.heap.size w w' := by
  go_enter Tryd.func60, Tryd.ntmps60
  go_wp2_with fail
  refine (cloneIn_any s _ hlim).mono ?_
  rintro e w1 ⟨rfl, hb⟩
  go_wp2
  go_ret
  exact ⟨rfl, hb⟩

theorem drop_at (s : ByteArray) (j : Nat) (h : j < s.size) : s.data.toList.drop j = s[j] :: s.data.toList.drop (j + 1) := by
  rw [List.drop_eq_getElem_cons (by rw [← Lib.size_eq]; exact h)]
  rfl

theorem run_step (s : ByteArray) (j : Nat) (h : j < s.size) (hy : (Tk.isL s[j] || Tk.isD s[j]) = true) : Tk.run (s.data.toList.drop j) = Tk.run (s.data.toList.drop (j + 1)) + 1 := by
  rw [drop_at s j h]
  simp only [Tk.run]
  rw [if_pos hy]
theorem run_stop (s : ByteArray) (j : Nat) (h : j < s.size) (hy : (Tk.isL s[j] || Tk.isD s[j]) = false) : Tk.run (s.data.toList.drop j) = 0 := by
  rw [drop_at s j h]
  simp only [Tk.run]
  rw [if_neg (by simp [hy])]
theorem run_end (s : ByteArray) (j : Nat) (h : ¬ j < s.size) : Tk.run (s.data.toList.drop j) = 0 := by
  rw [List.drop_of_length_le (by rw [← Lib.size_eq]; omega)]; rfl
theorem skip_end (s : ByteArray) (r : Bool) (j : Nat) (h : ¬ j < s.size) : Tk.skip r (s.data.toList.drop j) = 0 := by
  rw [List.drop_of_length_le (by rw [← Lib.size_eq]; omega)]; rfl

theorem skip_nl (s : ByteArray) (r : Bool) (j : Nat) (h : j < s.size) (e : ((s[j].toNat : Int) == 10) = true) : Tk.skip r (s.data.toList.drop j) = Tk.skip false (s.data.toList.drop (j + 1)) + 1 := by
  have e' : s[j].toNat = 10 := by simp at e; omega
  rw [drop_at s j h]
  simp only [Tk.skip]
  rw [if_pos e']
theorem skip_rem (s : ByteArray) (r : Bool) (j : Nat) (h : j < s.size) (e0 : ((s[j].toNat : Int) == 10) = false) (e : ((s[j].toNat : Int) == 35) = true) : Tk.skip r (s.data.toList.drop j) = Tk.skip true (s.data.toList.drop (j + 1)) + 1 := by
  have e1 : ¬ s[j].toNat = 10 := by simp at e0; omega
  have e' : s[j].toNat = 35 := by simp at e; omega
  rw [drop_at s j h]
  simp only [Tk.skip]
  rw [if_neg e1, if_pos e']
theorem skip_else (s : ByteArray) (r : Bool) (j : Nat) (h : j < s.size) (e0 : ((s[j].toNat : Int) == 10) = false) (e : ((s[j].toNat : Int) == 35) = false) (hg : (!r && !Tk.isB s[j]) = false) : Tk.skip r (s.data.toList.drop j) = Tk.skip r (s.data.toList.drop (j + 1)) + 1 := by
  have e1 : ¬ s[j].toNat = 10 := by simp at e0; omega
  have e' : ¬ s[j].toNat = 35 := by simp at e; omega
  rw [drop_at s j h]
  simp only [Tk.skip]
  rw [if_neg e1, if_neg e', if_neg (by rw [hg]; simp)]
theorem skip_stop (s : ByteArray) (r : Bool) (j : Nat) (h : j < s.size) (e0 : ((s[j].toNat : Int) == 10) = false) (e : ((s[j].toNat : Int) == 35) = false) (hg : (!r && !Tk.isB s[j]) = true) : Tk.skip r (s.data.toList.drop j) = 0 := by
  have e1 : ¬ s[j].toNat = 10 := by simp at e0; omega
  have e' : ¬ s[j].toNat = 35 := by simp at e; omega
  rw [drop_at s j h]
  simp only [Tk.skip]
  rw [if_neg e1, if_neg e', if_pos hg]

set_option maxHeartbeats 400000 in
theorem runEnd_any (s : ByteArray) (k : Nat) (w : World) (hs : s.size ≤ 1099511627776) (hk : k ≤ s.size) :
    Calls Tryd.prog 50 #[.string s, .int .i64 k] w fun e w' => e = .returned (.int .i64 ((k + Tk.run (s.data.toList.drop k) : Nat) : Int)) ∧ w' = w := by
  go_enter Tryd.func50, Tryd.ntmps50
  go_wp2
  go_loop [11] (fun i => ∃ j : Nat, k + j ≤ s.size ∧ i = .int .i64 j ∧ Hid (Tk.run (s.data.toList.drop k) = j + Tk.run (s.data.toList.drop (k + j)))) (fun i => s.size - k - (intOf i).toNat)
  case atStart => exact ⟨0, hk, rfl, (by show Tk.run _ = 0 + _; simp)⟩
  case round =>
    obtain ⟨j, hj, rfl, HR⟩ := hrel
    by_cases hlt : k + j < s.size
    · have d1 : decide ((j : Int) < (s.size : Int) - (k : Int)) = true := by simp; omega
      by_cases hor : (Tk.isL s[k + j] || Tk.isD s[k + j]) = true
      · have HR2 : Hid (Tk.run (s.data.toList.drop k) = (j + 1) + Tk.run (s.data.toList.drop (k + (j + 1)))) := by
          have h1 := HR.out
          rw [run_step s (k + j) hlt hor] at h1
          show _ = _
          rw [h1, show k + (j + 1) = k + j + 1 from by omega]
          omega
        cases hL : Tk.isL s[k + j]
        · have hD : Tk.isD s[k + j] = true := by simpa [hL] using hor
          clear hor
          go_wp2_with (first | (go_at_call 49; refine (isLetter_any _ _).mono ?_; rintro e w' ⟨rfl, hw⟩; subst hw) | (go_at_call 61; refine (isDigit_any _ _).mono ?_; rintro e w' ⟨rfl, hw⟩; subst hw))
          go_round
          case rel => exact ⟨j + 1, by omega, by go_num, HR2⟩
          case measure => simp [intOf]; omega
        · clear hor
          go_wp2_with (first | (go_at_call 49; refine (isLetter_any _ _).mono ?_; rintro e w' ⟨rfl, hw⟩; subst hw) | (go_at_call 61; refine (isDigit_any _ _).mono ?_; rintro e w' ⟨rfl, hw⟩; subst hw))
          go_round
          case rel => exact ⟨j + 1, by omega, by go_num, HR2⟩
          case measure => simp [intOf]; omega
      · have hor' : (Tk.isL s[k + j] || Tk.isD s[k + j]) = false := by simpa using hor
        have HE : Hid (Tk.run (s.data.toList.drop k) = j) := by
          have h1 := HR.out
          rw [run_stop s (k + j) hlt hor'] at h1
          exact h1
        have hL : Tk.isL s[k + j] = false := by simp at hor'; exact hor'.1
        have hD : Tk.isD s[k + j] = false := by simp at hor'; exact hor'.2
        clear hor hor'
        go_wp2_with (first | (go_at_call 49; refine (isLetter_any _ _).mono ?_; rintro e w' ⟨rfl, hw⟩; subst hw) | (go_at_call 61; refine (isDigit_any _ _).mono ?_; rintro e w' ⟨rfl, hw⟩; subst hw))
        go_ret
        refine ⟨?_, rfl⟩
        rw [HE.out]
        show Ending.returned (Value.int .i64 _) = _
        congr 2
    · have e1 := run_end s (k + j) hlt
      have e2 := HR.out
      rw [e1] at e2
      have E2 := hide e2
      clear e1 e2
      have d1 : decide ((j : Int) < (s.size : Int) - (k : Int)) = false := by simp; omega
      go_wp2
      go_ret
      refine ⟨?_, rfl⟩
      rw [E2.out]
      show Ending.returned (Value.int .i64 (s.size : Int)) = _
      congr 2
      omega

set_option maxHeartbeats 400000 in
theorem blanksEnd_any (s : ByteArray) (k : Nat) (w : World) (hs : s.size ≤ 1099511627776) (hk : k ≤ s.size) :
    Calls Tryd.prog 43 #[.string s, .int .i64 k] w fun e w' => e = .returned (.int .i64 ((k + Tk.skip false (s.data.toList.drop k) : Nat) : Int)) ∧ w' = w := by
  go_enter Tryd.func43, Tryd.ntmps43
  go_wp2
  go_loop [5, 12] (fun r i => ∃ (j : Nat) (q : Bool), k + j ≤ s.size ∧ i = .int .i64 j ∧ r = .bool q ∧ Hid (Tk.skip false (s.data.toList.drop k) = j + Tk.skip q (s.data.toList.drop (k + j)))) (fun _ i => s.size - k - (intOf i).toNat)
  case atStart => exact ⟨0, false, hk, rfl, rfl, (by show Tk.skip _ _ = 0 + _; simp)⟩
  case round =>
    obtain ⟨j, q, hj, rfl, rfl, HR⟩ := hrel
    by_cases hlt : k + j < s.size
    · have d1 : decide ((j : Int) < (s.size : Int) - (k : Int)) = true := by simp; omega
      have NX : ∀ q' : Bool, Tk.skip q (s.data.toList.drop (k + j)) = Tk.skip q' (s.data.toList.drop (k + j + 1)) + 1 → Hid (Tk.skip false (s.data.toList.drop k) = (j + 1) + Tk.skip q' (s.data.toList.drop (k + (j + 1)))) := fun q' hq => by
        have h1 := HR.out
        rw [hq] at h1
        show _ = _
        rw [h1, show k + (j + 1) = k + j + 1 from by omega]
        omega
      cases h10 : ((s[k + j].toNat : Int) == 10)
      · cases h35 : ((s[k + j].toNat : Int) == 35)
        · cases hg : (!q && !Tk.isB s[k + j])
          · have HR2 := NX q (skip_else s q (k + j) hlt h10 h35 hg)
            clear NX
            cases q
            · have hB : Tk.isB s[k + j] = true := by simpa using hg
              clear hg
              go_wp2_with (first | (go_at_call 59; refine (isBlank_any _ _).mono ?_; rintro e w' ⟨rfl, hw⟩; subst hw))
              go_round
              case rel => exact ⟨j + 1, _, by omega, by go_num, rfl, HR2⟩
              case measure => simp [intOf]; omega
            · clear hg
              go_wp2_with (first | (go_at_call 59; refine (isBlank_any _ _).mono ?_; rintro e w' ⟨rfl, hw⟩; subst hw))
              go_round
              case rel => exact ⟨j + 1, _, by omega, by go_num, rfl, HR2⟩
              case measure => simp [intOf]; omega
          · have HE : Hid (Tk.skip false (s.data.toList.drop k) = j) := by
              have h1 := HR.out
              rw [skip_stop s q (k + j) hlt h10 h35 hg] at h1
              exact h1
            have hq : q = false := by cases q <;> simp_all
            have hB : Tk.isB s[k + j] = false := by simp at hg; exact hg.2
            subst hq
            clear hg NX
            go_wp2_with (first | (go_at_call 59; refine (isBlank_any _ _).mono ?_; rintro e w' ⟨rfl, hw⟩; subst hw))
            go_ret
            refine ⟨?_, rfl⟩
            rw [HE.out]
            show Ending.returned (Value.int .i64 _) = _
            congr 2
        · have HR2 := NX true (skip_rem s q (k + j) hlt h10 h35)
          clear NX
          go_wp2
          go_round
          case rel => exact ⟨j + 1, _, by omega, by go_num, rfl, HR2⟩
          case measure => simp [intOf]; omega
      · have HR2 := NX false (skip_nl s q (k + j) hlt h10)
        clear NX
        go_wp2
        go_round
        case rel => exact ⟨j + 1, _, by omega, by go_num, rfl, HR2⟩
        case measure => simp [intOf]; omega
    · have e1 := skip_end s q (k + j) hlt
      have e2 := HR.out
      rw [e1] at e2
      have E2 := hide e2
      clear e1 e2
      have d1 : decide ((j : Int) < (s.size : Int) - (k : Int)) = false := by simp; omega
      go_wp2
      go_ret
      refine ⟨?_, rfl⟩
      rw [E2.out]
      show Ending.returned (Value.int .i64 (s.size : Int)) = _
      congr 2
      omega
end Go.Proofs.YtlipncdfmloijaaDoor

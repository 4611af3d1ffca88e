/- Contracts of the document's own small functions: letters, digits, words, names, where a run ends, what digits say. -/
import Derived.Test.YtlipncdfmloijaaDoorTokG
namespace Go.Proofs.YtlipncdfmloijaaDoor
open Go.RowKit

set_option maxHeartbeats 400000 in
theorem small_any (b : UInt8) (w : World) : Calls Tryd.prog 45 #[.int .u8 (b.toNat : Int)] w fun e w' => e = .returned (.bool (Tk.isL b)) ∧ w' = w := by
  rw [Tk.isL_int]
  go_enter Tryd.func45, Tryd.ntmps45
  go_wp2
  all_goals
    go_ret
    first
    | (simp [*]; done)
    | (simp [*]; omega)
set_option maxHeartbeats 400000 in
theorem digit_any (b : UInt8) (w : World) : Calls Tryd.prog 47 #[.int .u8 (b.toNat : Int)] w fun e w' => e = .returned (.bool (Tk.isD b)) ∧ w' = w := by
  rw [Tk.isD_int]
  go_enter Tryd.func47, Tryd.ntmps47
  go_wp2
  all_goals
    go_ret
    first
    | (simp [*]; done)
    | (simp [*]; omega)
set_option maxHeartbeats 400000 in
theorem rF_any (c a : Int) (w : World) :
    Calls Tryd.prog 33 #[.int .i64 c, .int .i64 a] w fun e w' => e = .returned (.agg #[.int .i64 c, .int .i64 a]) ∧ Below w.heap.size w w' := by
  go_enter Tryd.func33, Tryd.ntmps33
  go_wp2
  exact bodyPost_ret (v := .agg #[.int .i64 c, .int .i64 a]) (by simp [results, Tryd.results33, go_sem]) rfl ⟨rfl, (Below.refl _ _).alloc (Nat.le_refl _) _⟩

set_option maxHeartbeats 400000 in
theorem long_any (s : ByteArray) (k : Nat) (w : World) (hs : s.size ≤ 1099511627776) (hk : k ≤ s.size) :
    Calls Tryd.prog 46 #[.string s, .int .i64 k] w fun e w' => e = .returned (.int .i64 ((k + Tk.run (s.data.toList.drop k) : Nat) : Int)) ∧ w' = w := by
  go_enter Tryd.func46, Tryd.ntmps46
  go_wp2
  go_loop [1] (fun i => ∃ j : Nat, k + j ≤ s.size ∧ i = .int .i64 ((k + j : Nat) : Int) ∧ Hid (Tk.run (s.data.toList.drop k) = j + Tk.run (s.data.toList.drop (k + j)))) (fun i => s.size - (intOf i).toNat)
  case atStart => exact ⟨0, hk, rfl, (by show Tk.run _ = 0 + _; simp)⟩
  case round =>
    obtain ⟨j, hj, rfl, HR⟩ := hrel
    by_cases hlt : k + j < s.size
    · have d1 : decide (((k + j : Nat) : Int) < (s.size : Int)) = true := by simp; omega
      by_cases hor : (Tk.isL s[k + j] || Tk.isD s[k + j]) = true
      · have HR2 : Hid (Tk.run (s.data.toList.drop k) = (j + 1) + Tk.run (s.data.toList.drop (k + (j + 1)))) := by
          have h1 := HR.out
          rw [run_step s (k + j) hlt hor] at h1
          show _ = _
          rw [h1, show k + (j + 1) = k + j + 1 from by omega]
          omega
        cases hL : Tk.isL s[k + j]
        · have hD : Tk.isD s[k + j] = true := by simpa [hL] using hor
          clear hor
          go_wp2_with (first | (go_at_call 45; refine (small_any _ _).mono ?_; rintro e w' ⟨rfl, hw⟩; subst hw) | (go_at_call 47; refine (digit_any _ _).mono ?_; rintro e w' ⟨rfl, hw⟩; subst hw))
          go_round
          case rel => exact ⟨j + 1, by omega, by go_num, HR2⟩
          case measure => simp [intOf]; omega
        · clear hor
          go_wp2_with (first | (go_at_call 45; refine (small_any _ _).mono ?_; rintro e w' ⟨rfl, hw⟩; subst hw) | (go_at_call 47; refine (digit_any _ _).mono ?_; rintro e w' ⟨rfl, hw⟩; subst hw))
          go_round
          case rel => exact ⟨j + 1, by omega, by go_num, HR2⟩
          case measure => simp [intOf]; omega
      · have hor' : (Tk.isL s[k + j] || Tk.isD s[k + j]) = false := by simpa using hor
        have HE : Hid (Tk.run (s.data.toList.drop k) = j) := by
          have h1 := HR.out
          rw [run_stop s (k + j) hlt hor'] at h1
          exact h1
        have hL : Tk.isL s[k + j] = false := by simp at hor'; exact hor'.1
        have hD : Tk.isD s[k + j] = false := by simp at hor'; exact hor'.2
        clear hor hor'
        go_wp2_with (first | (go_at_call 45; refine (small_any _ _).mono ?_; rintro e w' ⟨rfl, hw⟩; subst hw) | (go_at_call 47; refine (digit_any _ _).mono ?_; rintro e w' ⟨rfl, hw⟩; subst hw))
        go_ret
        refine ⟨?_, rfl⟩
        rw [HE.out]
        show Ending.returned (Value.int .i64 _) = _
        first | rfl | (congr 2; done)
    · have e1 := run_end s (k + j) hlt
      have e2 := HR.out
      rw [e1] at e2
      have E2 := hide e2
      clear e1 e2
      have d1 : decide (((k + j : Nat) : Int) < (s.size : Int)) = false := by simp; omega
      go_wp2
      go_ret
      refine ⟨?_, rfl⟩
      rw [E2.out]
      show Ending.returned (Value.int .i64 _) = _
      first | rfl | (congr 2; done)

set_option maxRecDepth 100000 in
set_option maxHeartbeats 1000000 in
theorem isWord_any (s : ByteArray) (w : World) :
    Calls Tryd.prog 29 #[.string s] w fun e w' => e = .returned (.bool (Tk.isW s.data.toList)) ∧ Below w.heap.size w w' := by
  have hT : ∀ (j : Nat) b, Tk.words[j]? = some b → wcells[j]? = some (.string (bs b)) := fun j b hb => by
    unfold wcells
    simp [hb]
  have hsz : wcells.length = 19 := rfl
  go_enter Tryd.func29, Tryd.ntmps29
  go_wp2
  change Code.wp _ _ _ _ (w.alloc (Obj.cells wcells.toArray 9))
  generalize wcells = T at *
  have HT := hide hT
  clear hT
  go_loop [4] (fun i => ∃ j : Nat, j ≤ 19 ∧ i = .int .i64 j ∧ Hid (hasTo s.data.toList j = false)) (fun i => 19 - (intOf i).toNat)
  case atStart => exact ⟨0, by omega, rfl, rfl⟩
  case round =>
    obtain ⟨j, hj, rfl, HN⟩ := hrel
    by_cases hlt : j < 19
    · have hb : Tk.words[j]? = some (Tk.words[j]?.getD []) := by
        rw [List.getElem?_eq_getElem (show j < Tk.words.length from hlt)]; rfl
      have hTj := HT.out j _ hb
      have HS := hide (hasTo_step s.data.toList j _ hb)
      clear hb
      generalize Tk.words[j]?.getD [] = b at *
      have hcell : (w.alloc (Obj.cells T.toArray 9)).cell? ⟨w.heap.size, j, none⟩ = some (.string (bs b)) := by
        simp [go_sem, hTj]
      cases hq : (s.data.toList == b)
      · have HN2 : Hid (hasTo s.data.toList (j + 1) = false) := by
          have h1 := HS.out
          rw [HN.out, hq] at h1
          exact h1
        have heq : ((bs b).toList == s.toList) = false := by rw [← hq, Bool.beq_comm]; exact str_beq s b
        go_wp2
        go_round
        case rel => exact ⟨j + 1, by omega, by go_num, HN2⟩
        case measure => simp [intOf]; omega
      · have HN2 : Hid (Tk.isW s.data.toList = true) := by
          have h1 := HS.out
          rw [HN.out, hq] at h1
          exact hasTo_is _ _ h1
        have heq : ((bs b).toList == s.toList) = true := by rw [← hq, Bool.beq_comm]; exact str_beq s b
        go_wp2
        go_ret
        rw [HN2.out]
        exact ⟨rfl, (Below.refl _ _).alloc (Nat.le_refl _) _⟩
    · obtain rfl : j = 19 := by omega
      have HN2 : Hid (Tk.isW s.data.toList = false) := HN.out
      go_wp2
      go_ret
      rw [HN2.out]
      exact ⟨rfl, (Below.refl _ _).alloc (Nat.le_refl _) _⟩

set_option maxHeartbeats 400000 in
theorem num_no (s : ByteArray) (w : World) (hs : s.size ≤ 1099511627776) (h : 18 < s.size ∨ (1 < s.size ∧ ∃ h0 : 0 < s.size, s[0] = 48)) :
    Calls Tryd.prog 48 #[.string s] w fun e w' => e = .returned (.int .i64 (-1)) ∧ w' = w := by
  by_cases h18 : 18 < s.size
  · have d1 : decide ((18 : Int) < (s.size : Int)) = true := by simp; omega
    go_enter Tryd.func48, Tryd.ntmps48
    go_wp2
    all_goals
      go_ret
      exact ⟨rfl, rfl⟩
  · have hb : 1 < s.size ∧ ∃ h0 : 0 < s.size, s[0] = 48 := by
      rcases h with h | h
      · omega
      · exact h
    obtain ⟨h1, h0, he⟩ := hb
    have d1 : decide ((18 : Int) < (s.size : Int)) = false := by simp; omega
    have d2 : decide ((1 : Int) < (s.size : Int)) = true := by simp; omega
    have d3 : ((s[0].toNat : Int) == 48) = true := by rw [he]; rfl
    clear h
    go_enter Tryd.func48, Tryd.ntmps48
    go_wp2
    all_goals
      go_ret
      exact ⟨rfl, rfl⟩

set_option maxHeartbeats 400000 in
theorem num_go (s : ByteArray) (w : World) (hs : s.size ≤ 18) (h : ∀ h0 : 0 < s.size, 1 < s.size → ((s[0].toNat : Int) == 48) = false) :
    Calls Tryd.prog 48 #[.string s] w fun e w' => e = .returned (.int .i64 ((Tk.val 0 s.data.toList).getD (-1))) ∧ w' = w := by
  have d1 : decide ((18 : Int) < (s.size : Int)) = false := by simp; omega
  by_cases h1 : 1 < s.size
  · have d2 : decide ((1 : Int) < (s.size : Int)) = true := by simp; omega
    have d3 := h (by omega) h1
    clear h
    go_enter Tryd.func48, Tryd.ntmps48
    go_wp2
    go_loop [3, 4] (fun n i => ∃ (j : Nat) (m : Int), j ≤ s.size ∧ i = .int .i64 j ∧ n = .int .i64 m ∧ 0 ≤ m ∧ Hid (m + 1 ≤ (10 : Int) ^ j) ∧ Hid (Tk.val 0 s.data.toList = Tk.val m (s.data.toList.drop j))) (fun _ i => s.size - (intOf i).toNat)
    case atStart => exact ⟨0, 0, by omega, rfl, rfl, by omega, (by show (0 : Int) + 1 ≤ 10 ^ 0; decide), (by show Tk.val _ _ = _; rw [List.drop_zero])⟩
    case round =>
      obtain ⟨j, m, hj, rfl, rfl, h0, HP, HV⟩ := hrel
      by_cases hlt : j < s.size
      · have hsm := val_small m j (by omega) HP.out
        cases hD : Tk.isD s[j]
        · have HE : Hid (Tk.val 0 s.data.toList = none) := by
            have h2 := HV.out
            rw [drop_at s j hlt] at h2
            show _ = _
            rw [h2]
            simp only [Tk.val]
            rw [if_neg (by simp [hD])]
          go_wp2_with (first | (go_at_call 47; refine (digit_any _ _).mono ?_; rintro e w' ⟨rfl, hw⟩; subst hw))
          go_ret
          rw [HE.out]
          exact ⟨rfl, rfl⟩
        · obtain ⟨e1, e2, e3⟩ := val_step m s[j] (s.data.toList.drop (j + 1)) j h0 HP.out hD
          have HV2 : Hid (Tk.val 0 s.data.toList = Tk.val (m * 10 + ((s[j].toNat : Int) - 48)) (s.data.toList.drop (j + 1))) := by
            have h2 := HV.out
            rw [drop_at s j hlt, e1] at h2
            exact h2
          have HP2 := hide e3
          have hd : 48 ≤ s[j].toNat ∧ s[j].toNat ≤ 57 := by simpa [Tk.isD] using hD
          obtain ⟨hd1, hd2⟩ := hd
          clear e1 e3
          go_wp2_with (first | (go_at_call 47; refine (digit_any _ _).mono ?_; rintro e w' ⟨rfl, hw⟩; subst hw))
          go_round
          case rel => exact ⟨j + 1, m * 10 + ((s[j].toNat : Int) - 48), by omega, by go_num, by first | rfl | (rw [Int.mul_comm]; go_num) | go_num, e2, HP2, HV2⟩
          case measure => simp [intOf]; omega
      · obtain rfl : j = s.size := by omega
        have HE : Hid (Tk.val 0 s.data.toList = some m) := by
          have h2 := HV.out
          rw [List.drop_of_length_le (by rw [← Lib.size_eq]; omega)] at h2
          exact h2
        go_wp2
        go_ret
        rw [HE.out]
        exact ⟨rfl, rfl⟩
  · have d2 : decide ((1 : Int) < (s.size : Int)) = false := by simp; omega
    clear h
    go_enter Tryd.func48, Tryd.ntmps48
    go_wp2
    go_loop [3, 4] (fun n i => ∃ (j : Nat) (m : Int), j ≤ s.size ∧ i = .int .i64 j ∧ n = .int .i64 m ∧ 0 ≤ m ∧ Hid (m + 1 ≤ (10 : Int) ^ j) ∧ Hid (Tk.val 0 s.data.toList = Tk.val m (s.data.toList.drop j))) (fun _ i => s.size - (intOf i).toNat)
    case atStart => exact ⟨0, 0, by omega, rfl, rfl, by omega, (by show (0 : Int) + 1 ≤ 10 ^ 0; decide), (by show Tk.val _ _ = _; rw [List.drop_zero])⟩
    case round =>
      obtain ⟨j, m, hj, rfl, rfl, h0, HP, HV⟩ := hrel
      by_cases hlt : j < s.size
      · have hsm := val_small m j (by omega) HP.out
        cases hD : Tk.isD s[j]
        · have HE : Hid (Tk.val 0 s.data.toList = none) := by
            have h2 := HV.out
            rw [drop_at s j hlt] at h2
            show _ = _
            rw [h2]
            simp only [Tk.val]
            rw [if_neg (by simp [hD])]
          go_wp2_with (first | (go_at_call 47; refine (digit_any _ _).mono ?_; rintro e w' ⟨rfl, hw⟩; subst hw))
          go_ret
          rw [HE.out]
          exact ⟨rfl, rfl⟩
        · obtain ⟨e1, e2, e3⟩ := val_step m s[j] (s.data.toList.drop (j + 1)) j h0 HP.out hD
          have HV2 : Hid (Tk.val 0 s.data.toList = Tk.val (m * 10 + ((s[j].toNat : Int) - 48)) (s.data.toList.drop (j + 1))) := by
            have h2 := HV.out
            rw [drop_at s j hlt, e1] at h2
            exact h2
          have HP2 := hide e3
          have hd : 48 ≤ s[j].toNat ∧ s[j].toNat ≤ 57 := by simpa [Tk.isD] using hD
          obtain ⟨hd1, hd2⟩ := hd
          clear e1 e3
          go_wp2_with (first | (go_at_call 47; refine (digit_any _ _).mono ?_; rintro e w' ⟨rfl, hw⟩; subst hw))
          go_round
          case rel => exact ⟨j + 1, m * 10 + ((s[j].toNat : Int) - 48), by omega, by go_num, by first | rfl | (rw [Int.mul_comm]; go_num) | go_num, e2, HP2, HV2⟩
          case measure => simp [intOf]; omega
      · obtain rfl : j = s.size := by omega
        have HE : Hid (Tk.val 0 s.data.toList = some m) := by
          have h2 := HV.out
          rw [List.drop_of_length_le (by rw [← Lib.size_eq]; omega)] at h2
          exact h2
        go_wp2
        go_ret
        rw [HE.out]
        exact ⟨rfl, rfl⟩

theorem num_any (s : ByteArray) (w : World) (hs : s.size ≤ 1099511627776) :
    Calls Tryd.prog 48 #[.string s] w fun e w' => e = .returned (.int .i64 ((Tk.numOf s.data.toList).getD (-1))) ∧ w' = w := by
  have hh := head_48 s
  have hsz := Lib.size_eq s
  by_cases h : 18 < s.size ∨ (1 < s.size ∧ ∃ h0 : 0 < s.size, s[0] = 48)
  · have e : Tk.numOf s.data.toList = none := by
      unfold Tk.numOf
      rw [if_pos (by rw [← hsz, hh]; exact h)]
    rw [e]
    exact num_no s w hs h
  · have e : Tk.numOf s.data.toList = Tk.val 0 s.data.toList := by
      unfold Tk.numOf
      rw [if_neg (by rw [← hsz, hh]; exact h)]
    rw [e]
    refine num_go s w (by omega) (fun h0 h1 => ?_)
    cases hc : ((s[0].toNat : Int) == 48) with
    | false => rfl
    | true =>
      exfalso
      apply h
      refine .inr ⟨h1, h0, ?_⟩
      have h2 : s[0].toNat = 48 := by simp at hc; omega
      exact UInt8.toNat_inj.1 h2
theorem val_nonneg (l : List UInt8) (m n : Int) (hm : 0 ≤ m) (h : Tk.val m l = some n) : 0 ≤ n := by
  induction l generalizing m with
  | nil => simp only [Tk.val, Option.some.injEq] at h; omega
  | cons b t ih =>
    simp only [Tk.val] at h
    split at h
    · rename_i hd
      refine ih _ ?_ h
      simp only [Tk.isD, Bool.and_eq_true, decide_eq_true_eq] at hd
      omega
    · cases h
theorem numOf_nonneg (l : List UInt8) (n : Int) (h : Tk.numOf l = some n) : 0 ≤ n := by
  unfold Tk.numOf at h
  split at h
  · cases h
  · exact val_nonneg l 0 n (Int.le_refl _) h

set_option maxHeartbeats 1000000 in
theorem isName_any (s : ByteArray) (w : World) (hs : s.size ≤ 1099511627776) :
    Calls Tryd.prog 31 #[.string s] w fun e w' => e = .returned (.bool (Tk.isN s.data.toList)) ∧ Below w.heap.size w w' := by
  have hz := Lib.size_eq s
  by_cases h0 : s.size = 0
  · have hE : Tk.isN s.data.toList = false := by unfold Tk.isN; rw [← hz, h0]; rfl
    have HE := hide hE
    clear hE hz
    have d1 : decide ((s.size : Int) < 1) = true := by simp; omega
    go_enter Tryd.func31, Tryd.ntmps31
    go_wp2
    all_goals
      go_ret
      rw [HE.out]
      exact ⟨rfl, Below.refl _ _⟩
  · have hp : 0 < s.size := by omega
    have d1 : decide ((s.size : Int) < 1) = false := by simp; omega
    by_cases h12 : 12 < s.size
    · have hE : Tk.isN s.data.toList = false := by
        unfold Tk.isN
        rw [← hz, show decide (s.size ≤ 12) = false from by simp; omega]
        simp
      have HE := hide hE
      clear hE hz
      have d2 : decide ((12 : Int) < (s.size : Int)) = true := by simp; omega
      go_enter Tryd.func31, Tryd.ntmps31
      go_wp2
      all_goals
        go_ret
        rw [HE.out]
        exact ⟨rfl, Below.refl _ _⟩
    · have d2 : decide ((12 : Int) < (s.size : Int)) = false := by simp; omega
      have hh := head_at s hp
      have HL := hide (fun w => small_any s[0] w)
      have HW := hide (fun w => isWord_any s w)
      have hE : Tk.isN s.data.toList = (Tk.isL s[0] && decide (Tk.run s.data.toList = s.size) && !Tk.isW s.data.toList) := by
        unfold Tk.isN
        rw [← hz, hh, show decide (0 < s.size) = true from by simp; omega, show decide (s.size ≤ 12) = true from by simp; omega]
        simp
      have HE := hide hE
      clear hE hz hh h0
      cases hL : Tk.isL s[0]
      · go_enter Tryd.func31, Tryd.ntmps31
        go_wp2_with (first | (go_at_call 45; refine (HL.out _).mono ?_; rintro e w' ⟨rfl, hw⟩; subst hw))
        go_ret
        rw [HE.out, hL]
        exact ⟨rfl, Below.refl _ _⟩
      · cases hW : Tk.isW s.data.toList
        · rw [hW] at HW
          go_enter Tryd.func31, Tryd.ntmps31
          go_wp2_with (first | (go_at_call 45; refine (HL.out _).mono ?_; rintro e w' ⟨rfl, hw⟩; subst hw) | (go_at_call 29; refine (HW.out _).mono ?_; rintro e w5 ⟨rfl, hb5⟩))
          have HB5 := hide hb5
          clear hb5
          go_loop [3] (fun i => ∃ j : Nat, j ≤ s.size ∧ i = .int .i64 j ∧ Hid (Tk.run s.data.toList = j + Tk.run (s.data.toList.drop j))) (fun i => s.size - (intOf i).toNat)
          case atStart => exact ⟨0, by omega, rfl, (by show Tk.run _ = 0 + _; simp)⟩
          case round =>
            obtain ⟨j, hj, rfl, HR⟩ := hrel
            by_cases hlt : j < s.size
            · by_cases hor : (Tk.isL s[j] || Tk.isD s[j]) = true
              · have HR2 : Hid (Tk.run s.data.toList = (j + 1) + Tk.run (s.data.toList.drop (j + 1))) := by
                  have h1 := HR.out
                  rw [run_step s j hlt hor] at h1
                  show _ = _
                  rw [h1]
                  omega
                cases hL2 : Tk.isL s[j]
                · have hD : Tk.isD s[j] = true := by simpa [hL2] using hor
                  clear hor
                  go_wp2_with (first | (go_at_call 45; refine (small_any _ _).mono ?_; rintro e w7 ⟨rfl, hw⟩; subst hw) | (go_at_call 47; refine (digit_any _ _).mono ?_; rintro e w7 ⟨rfl, hw⟩; subst hw))
                  go_round
                  case rel => exact ⟨j + 1, by omega, by go_num, HR2⟩
                  case measure => simp [intOf]; omega
                · clear hor
                  go_wp2_with (first | (go_at_call 45; refine (small_any _ _).mono ?_; rintro e w7 ⟨rfl, hw⟩; subst hw) | (go_at_call 47; refine (digit_any _ _).mono ?_; rintro e w7 ⟨rfl, hw⟩; subst hw))
                  go_round
                  case rel => exact ⟨j + 1, by omega, by go_num, HR2⟩
                  case measure => simp [intOf]; omega
              · have hor' : (Tk.isL s[j] || Tk.isD s[j]) = false := by simpa using hor
                have HX : Hid (decide (Tk.run s.data.toList = s.size) = false) := by
                  have h1 := HR.out
                  rw [run_stop s j hlt hor'] at h1
                  show _ = _
                  rw [h1]
                  simp
                  omega
                have hL2 : Tk.isL s[j] = false := by simp at hor'; exact hor'.1
                have hD : Tk.isD s[j] = false := by simp at hor'; exact hor'.2
                clear hor hor'
                go_wp2_with (first | (go_at_call 45; refine (small_any _ _).mono ?_; rintro e w7 ⟨rfl, hw⟩; subst hw) | (go_at_call 47; refine (digit_any _ _).mono ?_; rintro e w7 ⟨rfl, hw⟩; subst hw))
                go_ret
                rw [HE.out, hL, HX.out]
                exact ⟨rfl, HB5.out⟩
            · have HX : Hid (decide (Tk.run s.data.toList = s.size) = true) := by
                have h1 := HR.out
                rw [run_end s j hlt] at h1
                show _ = _
                rw [h1]
                simp
                omega
              go_wp2
              go_ret
              rw [HE.out, hL, HX.out, hW]
              exact ⟨rfl, HB5.out⟩
        · rw [hW] at HW
          go_enter Tryd.func31, Tryd.ntmps31
          go_wp2_with (first | (go_at_call 45; refine (HL.out _).mono ?_; rintro e w' ⟨rfl, hw⟩; subst hw) | (go_at_call 29; refine (HW.out _).mono ?_; rintro e w5 ⟨rfl, hb5⟩))
          go_ret
          rw [HE.out, hL, hW]
          exact ⟨by simp, hb5⟩
end Go.Proofs.YtlipncdfmloijaaDoor

import Derived.Test.YtdnlnpdaplonfabDoorTkC
/- Contracts of the document's own small functions: letters, digits, words, names, where a run ends, what digits say. -/
namespace Go.Proofs.YtdnlnpdaplonfabDoor
open Go.RowKit

set_option maxHeartbeats 400000 in
theorem small_any (b : UInt8) (w : World) : Calls Tryd.prog 40 #[.int .u8 (b.toNat : Int)] w fun e w' => e = .returned (.bool (Tk.isL b)) ∧ w' = w := by
  rw [Tk.isL_int]
  go_enter Tryd.func40, Tryd.ntmps40
  go_wp2
  all_goals
    go_ret
    first
    | (simp [*]; done)
    | (simp [*]; omega)
set_option maxHeartbeats 400000 in
theorem digit_any (b : UInt8) (w : World) : Calls Tryd.prog 43 #[.int .u8 (b.toNat : Int)] w fun e w' => e = .returned (.bool (Tk.isD b)) ∧ w' = w := by
  rw [Tk.isD_int]
  go_enter Tryd.func43, Tryd.ntmps43
  go_wp2
  all_goals
    go_ret
    first
    | (simp [*]; done)
    | (simp [*]; omega)
set_option maxHeartbeats 400000 in
theorem rF_any (c a : Int) (w : World) :
    Calls Tryd.prog 39 #[.int .i64 c, .int .i64 a] w fun e w' => e = .returned (.agg #[.int .i64 c, .int .i64 a]) ∧ Below w.heap.size w w' := by
  go_enter Tryd.func39, Tryd.ntmps39
  go_wp2
  exact bodyPost_ret (v := .agg #[.int .i64 c, .int .i64 a]) (by simp [results, Tryd.results39, go_sem]) rfl ⟨rfl, (Below.refl _ _).alloc (Nat.le_refl _) _⟩

set_option maxHeartbeats 400000 in
theorem long_any (s : ByteArray) (k : Nat) (w : World) (hs : s.size ≤ 1099511627776) (hk : k ≤ s.size) :
    Calls Tryd.prog 41 #[.string s, .int .i64 k] w fun e w' => e = .returned (.int .i64 ((k + Tk.run (s.data.toList.drop k) : Nat) : Int)) ∧ w' = w := by
  go_enter Tryd.func41, Tryd.ntmps41
  go_wp2
  go_loop [1] (fun i => ∃ j : Nat, k + j ≤ s.size ∧ i = .int .i64 ((k + j : Nat) : Int) ∧ Hid (Tk.run (s.data.toList.drop k) = j + Tk.run (s.data.toList.drop (k + j)))) (fun i => s.size - (intOf i).toNat)
  case atStart => exact ⟨0, hk, rfl, (by show Tk.run _ = 0 + _; simp)⟩
  case round =>
    obtain ⟨j, hj, rfl, HR⟩ := hrel
    by_cases hlt : k + j < s.size
    · have d1 : decide (((k + j : Nat) : Int) < (s.size : Int)) = true := by simp; omega
      by_cases hor : (Tk.isL s[k + j] || Tk.isD s[k + j]) = true
      · have HR2 : Hid (Tk.run (s.data.toList.drop k) = (j + 1) + Tk.run (s.data.toList.drop (k + (j + 1)))) := by
          have h1 := HR.out
          rw [run_step s (k + j) hlt hor] at h1
          show _ = _
          rw [h1, show k + (j + 1) = k + j + 1 from by omega]
          omega
        cases hL : Tk.isL s[k + j]
        · have hD : Tk.isD s[k + j] = true := by simpa [hL] using hor
          clear hor
          go_wp2_with (first | (go_at_call 40; refine (small_any _ _).mono ?_; rintro e w' ⟨rfl, hw⟩; subst hw) | (go_at_call 43; refine (digit_any _ _).mono ?_; rintro e w' ⟨rfl, hw⟩; subst hw))
          go_round
          case rel => exact ⟨j + 1, by omega, by go_num, HR2⟩
          case measure => simp [intOf]; omega
        · clear hor
          go_wp2_with (first | (go_at_call 40; refine (small_any _ _).mono ?_; rintro e w' ⟨rfl, hw⟩; subst hw) | (go_at_call 43; refine (digit_any _ _).mono ?_; rintro e w' ⟨rfl, hw⟩; subst hw))
          go_round
          case rel => exact ⟨j + 1, by omega, by go_num, HR2⟩
          case measure => simp [intOf]; omega
      · have hor' : (Tk.isL s[k + j] || Tk.isD s[k + j]) = false := by simpa using hor
        have HE : Hid (Tk.run (s.data.toList.drop k) = j) := by
          have h1 := HR.out
          rw [run_stop s (k + j) hlt hor'] at h1
          exact h1
        have hL : Tk.isL s[k + j] = false := by simp at hor'; exact hor'.1
        have hD : Tk.isD s[k + j] = false := by simp at hor'; exact hor'.2
        clear hor hor'
        go_wp2_with (first | (go_at_call 40; refine (small_any _ _).mono ?_; rintro e w' ⟨rfl, hw⟩; subst hw) | (go_at_call 43; refine (digit_any _ _).mono ?_; rintro e w' ⟨rfl, hw⟩; subst hw))
        go_ret
        refine ⟨?_, rfl⟩
        rw [HE.out]
        show Ending.returned (Value.int .i64 _) = _
        first | rfl | (congr 2; done)
    · have e1 := run_end s (k + j) hlt
      have e2 := HR.out
      rw [e1] at e2
      have E2 := hide e2
      clear e1 e2
      have d1 : decide (((k + j : Nat) : Int) < (s.size : Int)) = false := by simp; omega
      go_wp2
      go_ret
      refine ⟨?_, rfl⟩
      rw [E2.out]
      show Ending.returned (Value.int .i64 _) = _
      first | rfl | (congr 2; done)

set_option maxRecDepth 100000 in
set_option maxHeartbeats 1000000 in
theorem isWord_any (s : ByteArray) (w : World) :
    Calls Tryd.prog 42 #[.string s] w fun e w' => e = .returned (.bool (Tk.isW s.data.toList)) ∧ Below w.heap.size w w' := by
  have hT : ∀ (j : Nat) b, Tk.words[j]? = some b → wcells[j]? = some (.string (bs b)) := fun j b hb => by
    unfold wcells
    simp [hb]
  have hsz : wcells.length = 19 := rfl
  go_enter Tryd.func42, Tryd.ntmps42
  go_wp2
  change Code.wp _ _ _ _ (w.alloc (Obj.cells wcells.toArray 9))
  generalize wcells = T at *
  have HT := hide hT
  clear hT
  go_loop [4] (fun i => ∃ j : Nat, j ≤ 19 ∧ i = .int .i64 j ∧ Hid (hasTo s.data.toList j = false)) (fun i => 19 - (intOf i).toNat)
  case atStart => exact ⟨0, by omega, rfl, rfl⟩
  case round =>
    obtain ⟨j, hj, rfl, HN⟩ := hrel
    by_cases hlt : j < 19
    · have hb : Tk.words[j]? = some (Tk.words[j]?.getD []) := by
        rw [List.getElem?_eq_getElem (show j < Tk.words.length from hlt)]; rfl
      have hTj := HT.out j _ hb
      have HS := hide (hasTo_step s.data.toList j _ hb)
      clear hb
      generalize Tk.words[j]?.getD [] = b at *
      have hcell : (w.alloc (Obj.cells T.toArray 9)).cell? ⟨w.heap.size, j, none⟩ = some (.string (bs b)) := by
        simp [go_sem, hTj]
      cases hq : (s.data.toList == b)
      · have HN2 : Hid (hasTo s.data.toList (j + 1) = false) := by
          have h1 := HS.out
          rw [HN.out, hq] at h1
          exact h1
        have heq : ((bs b).toList == s.toList) = false := by rw [← hq, Bool.beq_comm]; exact str_beq s b
        go_wp2
        go_round
        case rel => exact ⟨j + 1, by omega, by go_num, HN2⟩
        case measure => simp [intOf]; omega
      · have HN2 : Hid (Tk.isW s.data.toList = true) := by
          have h1 := HS.out
          rw [HN.out, hq] at h1
          exact hasTo_is _ _ h1
        have heq : ((bs b).toList == s.toList) = true := by rw [← hq, Bool.beq_comm]; exact str_beq s b
        go_wp2
        go_ret
        rw [HN2.out]
        exact ⟨rfl, (Below.refl _ _).alloc (Nat.le_refl _) _⟩
    · obtain rfl : j = 19 := by omega
      have HN2 : Hid (Tk.isW s.data.toList = false) := HN.out
      go_wp2
      go_ret
      rw [HN2.out]
      exact ⟨rfl, (Below.refl _ _).alloc (Nat.le_refl _) _⟩

set_option maxHeartbeats 400000 in
theorem num_no (s : ByteArray) (w : World) (hs : s.size ≤ 1099511627776) (h : 18 < s.size ∨ (1 < s.size ∧ ∃ h0 : 0 < s.size, s[0] = 48)) :
    Calls Tryd.prog 44 #[.string s] w fun e w' => e = .returned (.int .i64 (-1)) ∧ w' = w := by
  by_cases h18 : 18 < s.size
  · have d1 : decide ((18 : Int) < (s.size : Int)) = true := by simp; omega
    go_enter Tryd.func44, Tryd.ntmps44
    go_wp2
    all_goals
      go_ret
      exact ⟨rfl, rfl⟩
  · have hb : 1 < s.size ∧ ∃ h0 : 0 < s.size, s[0] = 48 := by
      rcases h with h | h
      · omega
      · exact h
    obtain ⟨h1, h0, he⟩ := hb
    have d1 : decide ((18 : Int) < (s.size : Int)) = false := by simp; omega
    have d2 : decide ((1 : Int) < (s.size : Int)) = true := by simp; omega
    have d3 : ((s[0].toNat : Int) == 48) = true := by rw [he]; rfl
    clear h
    go_enter Tryd.func44, Tryd.ntmps44
    go_wp2
    all_goals
      go_ret
      exact ⟨rfl, rfl⟩

set_option maxHeartbeats 400000 in
theorem num_go (s : ByteArray) (w : World) (hs : s.size ≤ 18) (h : ∀ h0 : 0 < s.size, 1 < s.size → ((s[0].toNat : Int) == 48) = false) :
    Calls Tryd.prog 44 #[.string s] w fun e w' => e = .returned (.int .i64 ((Tk.val 0 s.data.toList).getD (-1))) ∧ w' = w := by
  have d1 : decide ((18 : Int) < (s.size : Int)) = false := by simp; omega
  by_cases h1 : 1 < s.size
  · have d2 : decide ((1 : Int) < (s.size : Int)) = true := by simp; omega
    have d3 := h (by omega) h1
    clear h
    go_enter Tryd.func44, Tryd.ntmps44
    go_wp2
    go_loop [3, 4] (fun n i => ∃ (j : Nat) (m : Int), j ≤ s.size ∧ i = .int .i64 j ∧ n = .int .i64 m ∧ 0 ≤ m ∧ Hid (m + 1 ≤ (10 : Int) ^ j) ∧ Hid (Tk.val 0 s.data.toList = Tk.val m (s.data.toList.drop j))) (fun _ i => s.size - (intOf i).toNat)
    case atStart => exact ⟨0, 0, by omega, rfl, rfl, by omega, (by show (0 : Int) + 1 ≤ 10 ^ 0; decide), (by show Tk.val _ _ = _; rw [List.drop_zero])⟩
    case round =>
      obtain ⟨j, m, hj, rfl, rfl, h0, HP, HV⟩ := hrel
      by_cases hlt : j < s.size
      · have hsm := val_small m j (by omega) HP.out
        cases hD : Tk.isD s[j]
        · have HE : Hid (Tk.val 0 s.data.toList = none) := by
            have h2 := HV.out
            rw [drop_at s j hlt] at h2
            show _ = _
            rw [h2]
            simp only [Tk.val]
            rw [if_neg (by simp [hD])]
          go_wp2_with (first | (go_at_call 43; refine (digit_any _ _).mono ?_; rintro e w' ⟨rfl, hw⟩; subst hw))
          go_ret
          rw [HE.out]
          exact ⟨rfl, rfl⟩
        · obtain ⟨e1, e2, e3⟩ := val_step m s[j] (s.data.toList.drop (j + 1)) j h0 HP.out hD
          have HV2 : Hid (Tk.val 0 s.data.toList = Tk.val (m * 10 + ((s[j].toNat : Int) - 48)) (s.data.toList.drop (j + 1))) := by
            have h2 := HV.out
            rw [drop_at s j hlt, e1] at h2
            exact h2
          have HP2 := hide e3
          have hd : 48 ≤ s[j].toNat ∧ s[j].toNat ≤ 57 := by simpa [Tk.isD] using hD
          obtain ⟨hd1, hd2⟩ := hd
          clear e1 e3
          go_wp2_with (first | (go_at_call 43; refine (digit_any _ _).mono ?_; rintro e w' ⟨rfl, hw⟩; subst hw))
          go_round
          case rel => exact ⟨j + 1, m * 10 + ((s[j].toNat : Int) - 48), by omega, by go_num, by first | rfl | (rw [Int.mul_comm]; go_num) | go_num, e2, HP2, HV2⟩
          case measure => simp [intOf]; omega
      · obtain rfl : j = s.size := by omega
        have HE : Hid (Tk.val 0 s.data.toList = some m) := by
          have h2 := HV.out
          rw [List.drop_of_length_le (by rw [← Lib.size_eq]; omega)] at h2
          exact h2
        go_wp2
        go_ret
        rw [HE.out]
        exact ⟨rfl, rfl⟩
  · have d2 : decide ((1 : Int) < (s.size : Int)) = false := by simp; omega
    clear h
    go_enter Tryd.func44, Tryd.ntmps44
    go_wp2
    go_loop [3, 4] (fun n i => ∃ (j : Nat) (m : Int), j ≤ s.size ∧ i = .int .i64 j ∧ n = .int .i64 m ∧ 0 ≤ m ∧ Hid (m + 1 ≤ (10 : Int) ^ j) ∧ Hid (Tk.val 0 s.data.toList = Tk.val m (s.data.toList.drop j))) (fun _ i => s.size - (intOf i).toNat)
    case atStart => exact ⟨0, 0, by omega, rfl, rfl, by omega, (by show (0 : Int) + 1 ≤ 10 ^ 0; decide), (by show Tk.val _ _ = _; rw [List.drop_zero])⟩
    case round =>
      obtain ⟨j, m, hj, rfl, rfl, h0, HP, HV⟩ := hrel
      by_cases hlt : j < s.size
      · have hsm := val_small m j (by omega) HP.out
        cases hD : Tk.isD s[j]
        · have HE : Hid (Tk.val 0 s.data.toList = none) := by
            have h2 := HV.out
            rw [drop_at s j hlt] at h2
            show _ = _
            rw [h2]
            simp only [Tk.val]
            rw [if_neg (by simp [hD])]
          go_wp2_with (first | (go_at_call 43; refine (digit_any _ _).mono ?_; rintro e w' ⟨rfl, hw⟩; subst hw))
          go_ret
          rw [HE.out]
          exact ⟨rfl, rfl⟩
        · obtain ⟨e1, e2, e3⟩ := val_step m s[j] (s.data.toList.drop (j + 1)) j h0 HP.out hD
          have HV2 : Hid (Tk.val 0 s.data.toList = Tk.val (m * 10 + ((s[j].toNat : Int) - 48)) (s.data.toList.drop (j + 1))) := by
            have h2 := HV.out
            rw [drop_at s j hlt, e1] at h2
            exact h2
          have HP2 := hide e3
          have hd : 48 ≤ s[j].toNat ∧ s[j].toNat ≤ 57 := by simpa [Tk.isD] using hD
          obtain ⟨hd1, hd2⟩ := hd
          clear e1 e3
          go_wp2_with (first | (go_at_call 43; refine (digit_any _ _).mono ?_; rintro e w' ⟨rfl, hw⟩; subst hw))
          go_round
          case rel => exact ⟨j + 1, m * 10 + ((s[j].toNat : Int) - 48), by omega, by go_num, by first | rfl | (rw [Int.mul_comm]; go_num) | go_num, e2, HP2, HV2⟩
          case measure => simp [intOf]; omega
      · obtain rfl : j = s.size := by omega
        have HE : Hid (Tk.val 0 s.data.toList = some m) := by
          have h2 := HV.out
          rw [List.drop_of_length_le (by rw [← Lib.size_eq]; omega)] at h2
          exact h2
        go_wp2
        go_ret
        rw [HE.out]
        exact ⟨rfl, rfl⟩

theorem num_any (s : ByteArray) (w : World) (hs : s.size ≤ 1099511627776) :
    Calls Tryd.prog 44 #[.string s] w fun e w' => e = .returned (.int .i64 ((Tk.numOf s.data.toList).getD (-1))) ∧ w' = w := by
  have hh := head_48 s
  have hsz := Lib.size_eq s
  by_cases h : 18 < s.size ∨ (1 < s.size ∧ ∃ h0 : 0 < s.size, s[0] = 48)
  · have e : Tk.numOf s.data.toList = none := by
      unfold Tk.numOf
      rw [if_pos (by rw [← hsz, hh]; exact h)]
    rw [e]
    exact num_no s w hs h
  · have e : Tk.numOf s.data.toList = Tk.val 0 s.data.toList := by
      unfold Tk.numOf
      rw [if_neg (by rw [← hsz, hh]; exact h)]
    rw [e]
    refine num_go s w (by omega) (fun h0 h1 => ?_)
    cases hc : ((s[0].toNat : Int) == 48) with
    | false => rfl
    | true =>
      exfalso
      apply h
      refine .inr ⟨h1, h0, ?_⟩
      have h2 : s[0].toNat = 48 := by simp at hc; omega
      exact UInt8.toNat_inj.1 h2
theorem val_nonneg (l : List UInt8) (m n : Int) (hm : 0 ≤ m) (h : Tk.val m l = some n) : 0 ≤ n := by
  induction l generalizing m with
  | nil => simp only [Tk.val, Option.some.injEq] at h; omega
  | cons b t ih =>
    simp only [Tk.val] at h
    split at h
    · rename_i hd
      refine ih _ ?_ h
      simp only [Tk.isD, Bool.and_eq_true, decide_eq_true_eq] at hd
      omega
    · cases h
theorem numOf_nonneg (l : List UInt8) (n : Int) (h : Tk.numOf l = some n) : 0 ≤ n := by
  unfold Tk.numOf at h
  split at h
  · cases h
  · exact val_nonneg l 0 n (Int.le_refl _) h

end Go.Proofs.YtdnlnpdaplonfabDoor
/- Where the next token stands; what stands there, by its first byte. -/
namespace Go.Proofs.YtdnlnpdaplonfabDoor
open Go.RowKit

/-- Where the next token stands, or the end. -/
def nx (l : List UInt8) (p : Nat) : Nat := p + Tk.skip false (l.drop p)
theorem nx_le (l : List UInt8) (p : Nat) (h : p ≤ l.length) : p ≤ nx l p ∧ nx l p ≤ l.length := by
  unfold nx
  have := Tk.skip_le (l.drop p) false
  rw [List.length_drop] at this
  omega
theorem nx_blank (s : ByteArray) (p : Nat) (h : p < s.size) (hc : (s[p].toNat : Int) = 32 ∨ (s[p].toNat : Int) = 9 ∨ (s[p].toNat : Int) = 10 ∨ (s[p].toNat : Int) = 13) : nx s.data.toList (p + 1) = nx s.data.toList p := by
  unfold nx
  by_cases h10 : ((s[p].toNat : Int) == 10) = true
  · rw [skip_nl s false p h h10]; omega
  · have h10' : ((s[p].toNat : Int) == 10) = false := by simpa using h10
    have h35 : ((s[p].toNat : Int) == 35) = false := by
      rw [Bool.eq_false_iff]; intro e; have := beq_iff_eq.1 e; omega
    have hB : Tk.isB s[p] = true := by
      rw [Tk.isB_int]
      simp only [Bool.or_eq_true, beq_iff_eq]
      omega
    rw [skip_else s false p h h10' h35 (by rw [hB]; rfl)]; omega
theorem nx_rem (s : ByteArray) (p : Nat) (h : p < s.size) (hc : (s[p].toNat : Int) = 35) : nx s.data.toList p = p + Tk.skip true (s.data.toList.drop p) := by
  unfold nx
  have h10 : ((s[p].toNat : Int) == 10) = false := by rw [hc]; rfl
  have h35 : ((s[p].toNat : Int) == 35) = true := by rw [hc]; rfl
  rw [skip_rem s false p h h10 h35, skip_rem s true p h h10 h35]
theorem rem_step (s : ByteArray) (p : Nat) (h : p < s.size) (hc : ((s[p].toNat : Int) == 10) = false) : p + 1 + Tk.skip true (s.data.toList.drop (p + 1)) = p + Tk.skip true (s.data.toList.drop p) := by
  cases h35 : ((s[p].toNat : Int) == 35)
  · rw [skip_else s true p h hc h35 rfl]; omega
  · rw [skip_rem s true p h hc h35]; omega
theorem rem_end (s : ByteArray) (p : Nat) (h : p < s.size) (hc : ((s[p].toNat : Int) == 10) = true) : nx s.data.toList p = p + Tk.skip true (s.data.toList.drop p) := by
  unfold nx
  rw [skip_nl s false p h hc, skip_nl s true p h hc]
theorem rem_over (s : ByteArray) (p : Nat) (h : ¬ p < s.size) : nx s.data.toList p = p + Tk.skip true (s.data.toList.drop p) := by
  unfold nx
  rw [skip_end s false p h, skip_end s true p h]
theorem nx_tok (s : ByteArray) (p : Nat) (h : p < s.size) (h10 : ((s[p].toNat : Int) == 10) = false) (h35 : ((s[p].toNat : Int) == 35) = false) (hB : Tk.isB s[p] = false) : nx s.data.toList p = p := by
  unfold nx
  rw [skip_stop s false p h h10 h35 (by rw [hB]; rfl)]; omega

theorem head_drop (s : ByteArray) (p : Nat) (h : p < s.size) : (s.data.toList.drop p).headD 0 = s[p] := by rw [drop_at s p h]; rfl
theorem run_pos (s : ByteArray) (p : Nat) (h : p < s.size) (hor : (Tk.isL s[p] || Tk.isD s[p]) = true) : 0 < Tk.run (s.data.toList.drop p) := by
  rw [run_step s p h hor]; omega
theorem tok_name (s : ByteArray) (p : Nat) (h : p < s.size) (hL : Tk.isL s[p] = true) : Tk.tok (s.data.toList.drop p) = Tk.nameAns ((s.data.toList.drop p).take (Tk.run (s.data.toList.drop p))) := by
  unfold Tk.tok
  have hD : Tk.isD s[p] = false := by
    rw [Tk.isL_int] at hL
    rw [Tk.isD_int]
    simp only [Bool.and_eq_true, decide_eq_true_eq] at hL
    rw [show decide ((s[p].toNat : Int) ≤ 57) = false from by simp; omega]
    simp
  rw [if_pos (run_pos s p h (by rw [hL]; rfl)), head_drop s p h, if_neg (by rw [hD]; simp)]
theorem tok_num (s : ByteArray) (p : Nat) (h : p < s.size) (hD : Tk.isD s[p] = true) : Tk.tok (s.data.toList.drop p) = Tk.numAns ((s.data.toList.drop p).take (Tk.run (s.data.toList.drop p))) := by
  unfold Tk.tok
  rw [if_pos (run_pos s p h (by rw [hD]; simp)), head_drop s p h, if_pos hD]
theorem tok_sign (s : ByteArray) (p : Nat) (h : p < s.size) (hL : Tk.isL s[p] = false) (hD : Tk.isD s[p] = false) : Tk.tok (s.data.toList.drop p) = if signLen (s.data.toList.drop p) = 0 then ⟨2, 0, 0, 0⟩ else ⟨0, 4, signLen (s.data.toList.drop p), 0⟩ := by
  unfold Tk.tok
  rw [if_neg (by rw [run_stop s p h (by rw [hL, hD]; rfl)]; omega), signAns_eq _ (drop_ne s p h)]
theorem sign_two (s : ByteArray) (p : Nat) (h : p + 1 < s.size) (h1 : (s[p].toNat : Int) = 61) (h2 : (s[p + 1].toNat : Int) = 61) : signLen (s.data.toList.drop p) = 2 := by
  have e1 : s[p] = 61 := UInt8.toNat_inj.1 (by have : s[p].toNat = 61 := by omega
                                               exact this)
  have e2 : s[p + 1] = 61 := UInt8.toNat_inj.1 (by have : s[p + 1].toNat = 61 := by omega
                                                   exact this)
  unfold signLen
  rw [drop_at s p (by omega), drop_at s (p + 1) h, e1, e2]
  rfl
theorem sign_one (s : ByteArray) (p : Nat) (h : p < s.size) (hn : ¬ ((s[p].toNat : Int) = 61 ∧ ∃ h2 : p + 1 < s.size, (s[p + 1].toNat : Int) = 61)) (hc : Tk.signs.contains s[p] = true) : signLen (s.data.toList.drop p) = 1 := by
  unfold signLen
  have hp : Lib.hasPrefix (s.data.toList.drop p) [61, 61] = false := by
    cases hq : Lib.hasPrefix (s.data.toList.drop p) [61, 61] with
    | false => rfl
    | true =>
      exfalso
      obtain ⟨r, hr⟩ := List.isPrefixOf_iff_prefix.1 hq
      rw [drop_at s p h] at hr
      simp only [List.cons_append, List.nil_append, List.cons.injEq] at hr
      obtain ⟨hr1, hr2⟩ := hr
      apply hn
      have hlt : p + 1 < s.size := by
        rcases Nat.lt_or_ge (p + 1) s.size with h' | h'
        · exact h'
        · rw [List.drop_of_length_le (by rw [← Lib.size_eq]; omega)] at hr2; cases hr2
      rw [drop_at s (p + 1) hlt] at hr2
      simp only [List.cons.injEq] at hr2
      refine ⟨by rw [← hr1]; rfl, hlt, by rw [← hr2.1]; rfl⟩
  rw [hp, head_drop s p h, if_neg (by simp), if_pos hc]
theorem sign_none (s : ByteArray) (p : Nat) (h : p < s.size) (hc : Tk.signs.contains s[p] = false) : signLen (s.data.toList.drop p) = 0 := by
  unfold signLen
  have hp : Lib.hasPrefix (s.data.toList.drop p) [61, 61] = false := by
    cases hq : Lib.hasPrefix (s.data.toList.drop p) [61, 61] with
    | false => rfl
    | true =>
      exfalso
      obtain ⟨r, hr⟩ := List.isPrefixOf_iff_prefix.1 hq
      rw [drop_at s p h] at hr
      simp only [List.cons_append, List.nil_append, List.cons.injEq] at hr
      rw [← hr.1] at hc
      exact absurd hc (by decide)
  rw [hp, head_drop s p h, if_neg (by simp), if_neg (by rw [hc]; simp)]
/-- The bytes that are signs. -/
theorem signs_cases (b : UInt8) : Tk.signs.contains b = true ↔ ((b.toNat : Int) = 40 ∨ (b.toNat : Int) = 41 ∨ (b.toNat : Int) = 123 ∨ (b.toNat : Int) = 125 ∨ (b.toNat : Int) = 44 ∨ (b.toNat : Int) = 59 ∨ (b.toNat : Int) = 43 ∨ (b.toNat : Int) = 45 ∨ (b.toNat : Int) = 42 ∨ (b.toNat : Int) = 60 ∨ (b.toNat : Int) = 61) := by
  have key : ∀ c : UInt8, (b = c ↔ (b.toNat : Int) = (c.toNat : Int)) := fun c => ⟨fun e => by rw [e], fun e => UInt8.toNat_inj.1 (by omega)⟩
  rw [List.contains_iff_mem]
  simp only [Tk.signs, List.mem_cons, List.not_mem_nil, or_false, key]
  rfl

theorem rel_step (l : List UInt8) (acc : List Tk.Tok) (p f : Nat) (A : Tk.Ans) (hl : p < l.length) (hnx : nx l p = p) (hA : Tk.tok (l.drop p) = A) (hc : A.code = 0) (HF : l.length - nx l p < f)
    (HR : Tk.scan l = Tk.comb acc (Tk.tl f (nx l p) (l.drop (nx l p)))) :
    0 < A.len ∧ p + A.len ≤ l.length ∧ ∃ f', l.length - nx l (p + A.len) < f' ∧ Tk.scan l = Tk.comb (acc ++ [⟨A.kind, p, (l.drop p).take A.len, A.n⟩]) (Tk.tl f' (nx l (p + A.len)) (l.drop (nx l (p + A.len)))) := by
  subst hA
  obtain ⟨h1, h2⟩ := Tk.tok_len _ hc
  rw [List.length_drop] at h2
  rw [hnx] at HF HR
  obtain ⟨g, rfl⟩ : ∃ g, f = g + 1 := ⟨f - 1, by omega⟩
  have hne : l.drop p ≠ [] := by
    intro e
    have := congrArg List.length e
    simp at this
    omega
  have h3 := Tk.comb_step acc (l.drop p) p g hne hc
  rw [List.drop_drop, List.drop_drop] at h3
  have e : p + ((Tk.tok (l.drop p)).len + Tk.skip false (l.drop (p + (Tk.tok (l.drop p)).len))) = nx l (p + (Tk.tok (l.drop p)).len) := by unfold nx; omega
  rw [e] at h3
  have h4 := nx_le l (p + (Tk.tok (l.drop p)).len) (by omega)
  exact ⟨h1, by omega, g, by omega, HR.trans h3⟩
theorem rel_bad (l : List UInt8) (acc : List Tk.Tok) (p f : Nat) (A : Tk.Ans) (hl : p < l.length) (hnx : nx l p = p) (hA : Tk.tok (l.drop p) = A) (hc : A.code ≠ 0) (HF : l.length - nx l p < f)
    (HR : Tk.scan l = Tk.comb acc (Tk.tl f (nx l p) (l.drop (nx l p)))) : Tk.scan l = ([], A.code, (p : Int)) := by
  subst hA
  rw [hnx] at HF HR
  obtain ⟨g, rfl⟩ : ∃ g, f = g + 1 := ⟨f - 1, by omega⟩
  have hne : l.drop p ≠ [] := by
    intro e
    have := congrArg List.length e
    simp at this
    omega
  rw [HR, Tk.tok_bad _ _ _ hne hc]
  simp [Tk.comb, hc]
theorem app_step {B : Nat} {R w2 w3 : World} {acc : List Tk.Tok} {v v' : Value} {o : Obj} (t : Tk.Tok) (HO2 : w2.ownsRow B 29 4 v acc.length (tcells acc)) (HB2 : Below B R w2) (hB : B ≤ w2.heap.size)
    (hown' : w3.ownsRow B 29 4 v' (acc.length + 1) (tcells acc ++ [.int .i64 t.kind, .int .i64 (t.at' : Int), .string (bs t.text), .int .i64 t.n])) (hgrow : (w2.alloc o).grownBy w3 v.ownBlock) :
    Hid (w3.ownsRow B 29 4 v' (acc ++ [t]).length (tcells (acc ++ [t]))) ∧ Hid (Below B R w3) := by
  constructor
  · show World.ownsRow _ _ _ _ _ _ _
    rw [tcells_app]
    simpa [tcells] using hown'
  · exact (HB2.alloc hB _).grown hgrow (by simp; omega) (fun j hj => (HO2.lt j hj).1)
end Go.Proofs.YtdnlnpdaplonfabDoor
/- The document's own Scan: the loop's body, the frame, what a round keeps. -/
namespace Go.Proofs.YtdnlnpdaplonfabDoor
open Go.RowKit

/-- The first loop in a code. -/
def firstLoop : Code → Option Code
  | .loop c => some c
  | .seq a b => match firstLoop a with
    | some c => some c
    | none => firstLoop b
  | .block _ c => firstLoop c
  | .scope c => firstLoop c
  | .cond _ a b => match firstLoop a with
    | some c => some c
    | none => firstLoop b
  | _ => none
noncomputable def rbody : Code := (Tryd.f19.body.bind firstLoop).getD .skip

set_option maxRecDepth 1000000 in
/-- The frame in the loop. -/
def frame (s : ByteArray) (b : Nat) (u : Nat → Value) : Act := ⟨#[.string s, undef, u 2, .pointer (some ⟨b, 0, none⟩), u 4, u 5, u 6, u 7, u 8, u 9, u 10, .string s, .int .i64 (s.size : Int), .bool false, undef, u 15, u 16, u 17, u 18, u 19, u 20, u 21, u 22, u 23, u 24, u 25, u 26, u 27, u 28, u 29, u 30, u 31, u 32, u 33, u 34, u 35, u 36, u 37, u 38, u 39, u 40, u 41, u 42, u 43, u 44, u 45, u 46, u 47, u 48, u 49, u 50, u 51, u 52, u 53, u 54, u 55, u 56, u 57, u 58, u 59, u 60, u 61, u 62, u 63, u 64, u 65, u 66, u 67, u 68, u 69, u 70, u 71, u 72, u 73, u 74, u 75, u 76, u 77, u 78, u 79, u 80, u 81, u 82, u 83, u 84, u 85, u 86, u 87, u 88, u 89, u 90, u 91, u 92, u 93, u 94, u 95, u 96, u 97, u 98, u 99, u 100, u 101, u 102, u 103, u 104, u 105, u 106, u 107, u 108, u 109, u 110, u 111, u 112, u 113, u 114, u 115, u 116, u 117, u 118, u 119, u 120, u 121, u 122, u 123, u 124, u 125, u 126, u 127, u 128, u 129, u 130, u 131, u 132, u 133, u 134, u 135, u 136, u 137, u 138, u 139, u 140, u 141, u 142, u 143, u 144, u 145, u 146, u 147, u 148, u 149, u 150, u 151, u 152, u 153, u 154, u 155, u 156, u 157, u 158, u 159, u 160, u 161, u 162, u 163, u 164, u 165, u 166, u 167, u 168, u 169, u 170, u 171, u 172, u 173, u 174, u 175, u 176, u 177, u 178, u 179, u 180, u 181, u 182, u 183, u 184, u 185, u 186, u 187, u 188, undef, undef], []⟩
/-- What a round keeps. -/
def Rel (s : ByteArray) (w : World) (v i : Value) (wr : World) : Prop := ∃ (acc : List Tk.Tok) (p f : Nat), acc.length ≤ p ∧ p ≤ s.size ∧ i = .int .i64 p ∧ Hid (s.size - nx s.data.toList p < f) ∧ Hid (Tk.scan s.data.toList = Tk.comb acc (Tk.tl f (nx s.data.toList p) (s.data.toList.drop (nx s.data.toList p)))) ∧
      Hid (wr.ownsRow (w.heap.size + 1) 29 4 v acc.length (tcells acc)) ∧ Hid (Below (w.heap.size + 1) (w.alloc (Obj.cells #[Value.int IntKind.i64 0, Value.int IntKind.i64 0] 25)) wr)
def WI (s : ByteArray) (w : World) (a : Act) (wr : World) : Prop := ∃ u : Nat → Value, Rel s w (u 4) (u 5) wr ∧ a = frame s w.heap.size u
def Wmu (s : ByteArray) (a : Act) (_ : World) : Nat := s.size - (intOf (a.tmps.getD 5 undef)).toNat
theorem wi_mk (s : ByteArray) (w : World) (a : Act) (wr : World) (ha : a = frame s w.heap.size (fun n => a.tmps.getD n undef)) (hrel : Rel s w (a.tmps.getD 4 undef) (a.tmps.getD 5 undef) wr) : WI s w a wr := ⟨_, hrel, ha⟩
end Go.Proofs.YtdnlnpdaplonfabDoor

/- Contracts: a word; what digits say; a token of digits, of letters, of signs. -/
import Derived.Test.YtlipncdfmloijaaDoorTokB
import Derived.Deep.MidRow
namespace Go.Proofs.YtlipncdfmloijaaDoor
open Go.RowKit

def bs (l : List UInt8) : ByteArray := ⟨l.toArray⟩
/-- The table of the words is as the program's text lays it. -/
def WTab (w : World) : Prop := 1 < w.heap.size ∧ ∀ (i : Nat) b, Tk.words[i]? = some b → w.cell? ⟨1, i, none⟩ = some (.string (bs b))
theorem WTab.below {w w' : World} (h : WTab w) (hb : Below w.heap.size w w') : WTab w' :=
  ⟨Nat.lt_of_lt_of_le h.1 hb.size, fun i b hi => (hb.cell (p := ⟨1, i, none⟩) h.1).trans (h.2 i b hi)⟩

def wcells : List Value := Tk.words.map fun b => Value.string (bs b)
theorem wtab_range {w : World} (h : WTab w) : w.rangeAt 1 0 wcells := by
  intro j v hv
  unfold wcells at hv
  rw [List.getElem?_map] at hv
  cases hj : Tk.words[j]? with
  | none => rw [hj] at hv; cases hv
  | some b =>
    rw [hj] at hv
    cases hv
    rw [Nat.zero_add]
    exact h.2 j b hj
theorem wtab_loadVar {w : World} (h : WTab w) : (loadVar 71 ⟨1, 0, none⟩).run Tryd.prog w = .ok (.agg wcells.toArray) w :=
  run_loadVar_mid w 1 0 71 wcells _ (wtab_range h) Tryd.underlying71 rfl (by kernel_rfl)
theorem wtab_loadCells {w : World} (h : WTab w) : (loadCells ⟨1, 0, none⟩ 19).run Tryd.prog w = .ok wcells.toArray w :=
  run_loadCells_list (P := Tryd.prog) w ⟨1, 0, none⟩ wcells (fun j v hv => by rw [Addr.add_mid]; exact wtab_range h j v hv)
theorem wtab_load {w : World} (h : WTab w) : (Instr.loadAt 71 (.pointer (some ⟨1, 0, none⟩))).run Tryd.prog w = .ok (.agg wcells.toArray) w :=
  run_loadAt_mid w 1 0 71 wcells _ (wtab_range h) Tryd.underlying71 rfl (by kernel_rfl)

theorem windex (T : List Value) (j : Nat) (b : ByteArray) (w : World) (hj : j < 19) (hb : T[j]? = some (.string b)) : (Instr.index 71 (.agg T.toArray) (.int .i64 (j : Int))).run Tryd.prog w = .ok (.string b) w := by
  have hn : 0 ≤ (j : Int) ∧ (j : Int) < ((19 : Nat) : Int) := by omega
  have a9 := Tryd.isAgg9
  have z9 := Tryd.sizeOf9
  have hl : j < T.length := (List.getElem?_eq_some_iff.1 hb).1
  have he : T[j] = .string b := (List.getElem?_eq_some_iff.1 hb).2
  simp [Instr.index, run_underlying Tryd.underlying71, asIntOf, hn, part, go_sem, hl, he]
  intro h; omega

/-- Is it among the first j of them? -/
def hasTo (l : List UInt8) (j : Nat) : Bool := (Tk.words.take j).contains l
theorem hasTo_step (l : List UInt8) (j : Nat) (b : List UInt8) (hb : Tk.words[j]? = some b) : hasTo l (j + 1) = (hasTo l j || (l == b)) := by
  unfold hasTo
  rw [List.take_add_one, hb]
  simp [Bool.beq_eq_decide_eq]

theorem hasTo_is (l : List UInt8) (j : Nat) (h : hasTo l j = true) : Tk.isW l = true := by
  unfold hasTo at h
  unfold Tk.isW
  rw [List.contains_iff_mem] at h ⊢
  exact List.mem_of_mem_take h
theorem str_beq (s : ByteArray) (b : List UInt8) : (s.toList == (bs b).toList) = (s.data.toList == b) := by
  rw [Lib.toList_data, Lib.toList_data]
  simp [bs]

set_option maxRecDepth 100000 in
set_option maxHeartbeats 1000000 in
theorem word_any (s : ByteArray) (w : World) (hw : WTab w) :
    Calls Tryd.prog 28 #[.string s] w fun e w' => e = .returned (.bool (Tk.isW s.data.toList)) ∧ w' = w := by
  have hr := wtab_range hw
  have hT : ∀ (j : Nat) b, Tk.words[j]? = some b → wcells[j]? = some (.string (bs b)) := fun j b hb => by
    unfold wcells
    simp [hb]
  have hsz : wcells.length = 19 := rfl
  generalize wcells = T at hr hT hsz
  have HT := hide hT
  have HR := hide hr
  clear hT hr
  have HW := hide hw
  clear hw
  go_enter Tryd.func28, Tryd.ntmps28
  go_wp2_with (refine wpList_load_mid rfl 71 _ rfl 1 0 rfl T _ HR.out Tryd.underlying71 rfl (by rw [hsz]; kernel_rfl) ?_)
  go_loop [6] (fun i => ∃ j : Nat, j ≤ 19 ∧ i = .int .i64 j ∧ Hid (hasTo s.data.toList j = false)) (fun i => 19 - (intOf i).toNat)
  case atStart => exact ⟨0, by omega, rfl, rfl⟩
  case round =>
    obtain ⟨j, hj, rfl, HN⟩ := hrel
    by_cases hlt : j < 19
    · have hb : Tk.words[j]? = some (Tk.words[j]?.getD []) := by
        rw [List.getElem?_eq_getElem (show j < Tk.words.length from hlt)]; rfl
      have hTj := HT.out j _ hb
      have HS := hide (hasTo_step s.data.toList j _ hb)
      clear hb
      generalize Tk.words[j]?.getD [] = b at *
      have hix := windex T j _ w hlt hTj
      clear hTj
      cases hq : (s.data.toList == b)
      · have HN2 : Hid (hasTo s.data.toList (j + 1) = false) := by
          have h1 := HS.out
          rw [HN.out, hq] at h1
          exact h1
        have heq : (s.toList == (bs b).toList) = false := by rw [← hq]; exact str_beq s b
        go_wp2
        go_round
        case rel => exact ⟨j + 1, by omega, by go_num, HN2⟩
        case measure => simp [intOf]; omega
      · have HN2 : Hid (Tk.isW s.data.toList = true) := by
          have h1 := HS.out
          rw [HN.out, hq] at h1
          exact hasTo_is _ _ h1
        have heq : (s.toList == (bs b).toList) = true := by rw [← hq]; exact str_beq s b
        go_wp2
        go_ret
        rw [HN2.out]
        exact ⟨rfl, rfl⟩
    · obtain rfl : j = 19 := by omega
      have HN2 : Hid (Tk.isW s.data.toList = false) := HN.out
      go_wp2
      go_ret
      rw [HN2.out]
      exact ⟨rfl, rfl⟩

/-- What a step of the reckoning keeps. -/
theorem val_step (n : Int) (b : UInt8) (t : List UInt8) (j : Nat) (h0 : 0 ≤ n) (h1 : n + 1 ≤ (10 : Int) ^ j) (hd : Tk.isD b = true) :
    Tk.val n (b :: t) = Tk.val (n * 10 + ((b.toNat : Int) - 48)) t ∧ 0 ≤ n * 10 + ((b.toNat : Int) - 48) ∧ n * 10 + ((b.toNat : Int) - 48) + 1 ≤ (10 : Int) ^ (j + 1) := by
  refine ⟨by simp only [Tk.val]; rw [if_pos hd], ?_, ?_⟩
  · simp only [Tk.isD, Bool.and_eq_true, decide_eq_true_eq] at hd
    omega
  · simp only [Tk.isD, Bool.and_eq_true, decide_eq_true_eq] at hd
    rw [Int.pow_succ]
    generalize (10 : Int) ^ j = p at *
    omega
theorem val_small (n : Int) (j : Nat) (hj : j ≤ 17) (h1 : n + 1 ≤ (10 : Int) ^ j) : n < 100000000000000000 := by
  have h := Nat.pow_le_pow_right (show 0 < 10 by decide) hj
  have h2 : ((10 ^ j : Nat) : Int) ≤ ((10 ^ 17 : Nat) : Int) := Int.ofNat_le.2 h
  rw [Int.natCast_pow, Int.natCast_pow] at h2
  have h3 : (((10 : Nat) : Int)) ^ 17 = 100000000000000000 := by decide
  rw [h3] at h2
  have h4 : (((10 : Nat) : Int)) ^ j = (10 : Int) ^ j := rfl
  rw [h4] at h2
  omega

set_option maxHeartbeats 400000 in
theorem numberOf_no (s : ByteArray) (w : World) (hs : s.size ≤ 1099511627776) (h : 18 < s.size ∨ (1 < s.size ∧ ∃ h0 : 0 < s.size, s[0] = 48)) :
    Calls Tryd.prog 78 #[.string s] w fun e w' => e = .returned (.tuple #[.int .i64 0, .bool false]) ∧ w' = w := by
  by_cases h18 : 18 < s.size
  · have d1 : decide ((18 : Int) < (s.size : Int)) = true := by simp; omega
    go_enter Tryd.func78, Tryd.ntmps78
    go_wp2
    all_goals
      go_ret2
      exact ⟨rfl, rfl⟩
  · have hb : 1 < s.size ∧ ∃ h0 : 0 < s.size, s[0] = 48 := by
      rcases h with h | h
      · omega
      · exact h
    obtain ⟨h1, h0, he⟩ := hb
    have d1 : decide ((18 : Int) < (s.size : Int)) = false := by simp; omega
    have d2 : decide ((1 : Int) < (s.size : Int)) = true := by simp; omega
    have d3 : ((s[0].toNat : Int) == 48) = true := by rw [he]; rfl
    clear h
    go_enter Tryd.func78, Tryd.ntmps78
    go_wp2
    all_goals
      go_ret2
      exact ⟨rfl, rfl⟩

set_option maxHeartbeats 400000 in
theorem numberOf_go (s : ByteArray) (w : World) (hs : s.size ≤ 18) (h : ∀ h0 : 0 < s.size, 1 < s.size → ((s[0].toNat : Int) == 48) = false) :
    Calls Tryd.prog 78 #[.string s] w fun e w' => e = .returned (.tuple #[.int .i64 ((Tk.val 0 s.data.toList).getD 0), .bool (Tk.val 0 s.data.toList).isSome]) ∧ w' = w := by
  have d1 : decide ((18 : Int) < (s.size : Int)) = false := by simp; omega
  by_cases h1 : 1 < s.size
  · have d2 : decide ((1 : Int) < (s.size : Int)) = true := by simp; omega
    have d3 := h (by omega) h1
    clear h
    go_enter Tryd.func78, Tryd.ntmps78
    go_wp2
    go_loop [2, 20] (fun n i => ∃ (j : Nat) (m : Int), j ≤ s.size ∧ i = .int .i64 j ∧ n = .int .i64 m ∧ 0 ≤ m ∧ Hid (m + 1 ≤ (10 : Int) ^ j) ∧ Hid (Tk.val 0 s.data.toList = Tk.val m (s.data.toList.drop j))) (fun _ i => s.size - (intOf i).toNat)
    case atStart => exact ⟨0, 0, by omega, rfl, rfl, by omega, (by show (0 : Int) + 1 ≤ 10 ^ 0; decide), (by show Tk.val _ _ = _; rw [List.drop_zero])⟩
    case round =>
      obtain ⟨j, m, hj, rfl, rfl, h0, HP, HV⟩ := hrel
      by_cases hlt : j < s.size
      · have hsm := val_small m j (by omega) HP.out
        cases hD : Tk.isD s[j]
        · have HE : Hid (Tk.val 0 s.data.toList = none) := by
            have h2 := HV.out
            rw [drop_at s j hlt] at h2
            show _ = _
            rw [h2]
            simp only [Tk.val]
            rw [if_neg (by simp [hD])]
          go_wp2_with (first | (go_at_call 61; refine (isDigit_any _ _).mono ?_; rintro e w' ⟨rfl, hw⟩; subst hw))
          go_ret2
          rw [HE.out]
          exact ⟨rfl, rfl⟩
        · obtain ⟨e1, e2, e3⟩ := val_step m s[j] (s.data.toList.drop (j + 1)) j h0 HP.out hD
          have HV2 : Hid (Tk.val 0 s.data.toList = Tk.val (m * 10 + ((s[j].toNat : Int) - 48)) (s.data.toList.drop (j + 1))) := by
            have h2 := HV.out
            rw [drop_at s j hlt, e1] at h2
            exact h2
          have HP2 := hide e3
          have hd : 48 ≤ s[j].toNat ∧ s[j].toNat ≤ 57 := by simpa [Tk.isD] using hD
          obtain ⟨hd1, hd2⟩ := hd
          clear e1 e3
          go_wp2_with (first | (go_at_call 61; refine (isDigit_any _ _).mono ?_; rintro e w' ⟨rfl, hw⟩; subst hw))
          go_round
          case rel => exact ⟨j + 1, _, by omega, by go_num, by first | rfl | go_num, e2, HP2, HV2⟩
          case measure => simp [intOf]; omega
      · obtain rfl : j = s.size := by omega
        have HE : Hid (Tk.val 0 s.data.toList = some m) := by
          have h2 := HV.out
          rw [List.drop_of_length_le (by rw [← Lib.size_eq]; omega)] at h2
          exact h2
        go_wp2
        go_ret2
        rw [HE.out]
        exact ⟨rfl, rfl⟩
  · have d2 : decide ((1 : Int) < (s.size : Int)) = false := by simp; omega
    clear h
    go_enter Tryd.func78, Tryd.ntmps78
    go_wp2
    go_loop [2, 20] (fun n i => ∃ (j : Nat) (m : Int), j ≤ s.size ∧ i = .int .i64 j ∧ n = .int .i64 m ∧ 0 ≤ m ∧ Hid (m + 1 ≤ (10 : Int) ^ j) ∧ Hid (Tk.val 0 s.data.toList = Tk.val m (s.data.toList.drop j))) (fun _ i => s.size - (intOf i).toNat)
    case atStart => exact ⟨0, 0, by omega, rfl, rfl, by omega, (by show (0 : Int) + 1 ≤ 10 ^ 0; decide), (by show Tk.val _ _ = _; rw [List.drop_zero])⟩
    case round =>
      obtain ⟨j, m, hj, rfl, rfl, h0, HP, HV⟩ := hrel
      by_cases hlt : j < s.size
      · have hsm := val_small m j (by omega) HP.out
        cases hD : Tk.isD s[j]
        · have HE : Hid (Tk.val 0 s.data.toList = none) := by
            have h2 := HV.out
            rw [drop_at s j hlt] at h2
            show _ = _
            rw [h2]
            simp only [Tk.val]
            rw [if_neg (by simp [hD])]
          go_wp2_with (first | (go_at_call 61; refine (isDigit_any _ _).mono ?_; rintro e w' ⟨rfl, hw⟩; subst hw))
          go_ret2
          rw [HE.out]
          exact ⟨rfl, rfl⟩
        · obtain ⟨e1, e2, e3⟩ := val_step m s[j] (s.data.toList.drop (j + 1)) j h0 HP.out hD
          have HV2 : Hid (Tk.val 0 s.data.toList = Tk.val (m * 10 + ((s[j].toNat : Int) - 48)) (s.data.toList.drop (j + 1))) := by
            have h2 := HV.out
            rw [drop_at s j hlt, e1] at h2
            exact h2
          have HP2 := hide e3
          have hd : 48 ≤ s[j].toNat ∧ s[j].toNat ≤ 57 := by simpa [Tk.isD] using hD
          obtain ⟨hd1, hd2⟩ := hd
          clear e1 e3
          go_wp2_with (first | (go_at_call 61; refine (isDigit_any _ _).mono ?_; rintro e w' ⟨rfl, hw⟩; subst hw))
          go_round
          case rel => exact ⟨j + 1, _, by omega, by go_num, by first | rfl | go_num, e2, HP2, HV2⟩
          case measure => simp [intOf]; omega
      · obtain rfl : j = s.size := by omega
        have HE : Hid (Tk.val 0 s.data.toList = some m) := by
          have h2 := HV.out
          rw [List.drop_of_length_le (by rw [← Lib.size_eq]; omega)] at h2
          exact h2
        go_wp2
        go_ret2
        rw [HE.out]
        exact ⟨rfl, rfl⟩

theorem head_48 (s : ByteArray) : s.data.toList.head? = some 48 ↔ ∃ h0 : 0 < s.size, s[0] = 48 := by
  constructor
  · intro h
    have h0 : 0 < s.size := by
      rw [Lib.size_eq]
      cases hc : s.data.toList with
      | nil => rw [hc] at h; cases h
      | cons => simp
    have hd := drop_at s 0 h0
    rw [List.drop_zero] at hd
    rw [hd] at h
    exact ⟨h0, by simpa using h⟩
  · rintro ⟨h0, he⟩
    have hd := drop_at s 0 h0
    rw [List.drop_zero] at hd
    rw [hd, he]
    rfl

theorem numberOf_any (s : ByteArray) (w : World) (hs : s.size ≤ 1099511627776) :
    Calls Tryd.prog 78 #[.string s] w fun e w' => e = .returned (.tuple #[.int .i64 ((Tk.numOf s.data.toList).getD 0), .bool (Tk.numOf s.data.toList).isSome]) ∧ w' = w := by
  have hh := head_48 s
  have hsz := Lib.size_eq s
  by_cases h : 18 < s.size ∨ (1 < s.size ∧ ∃ h0 : 0 < s.size, s[0] = 48)
  · have e : Tk.numOf s.data.toList = none := by
      unfold Tk.numOf
      rw [if_pos (by rw [← hsz, hh]; exact h)]
    rw [e]
    exact numberOf_no s w hs h
  · have e : Tk.numOf s.data.toList = Tk.val 0 s.data.toList := by
      unfold Tk.numOf
      rw [if_neg (by rw [← hsz, hh]; exact h)]
    rw [e]
    refine numberOf_go s w (by omega) (fun h0 h1 => ?_)
    cases hc : ((s[0].toNat : Int) == 48) with
    | false => rfl
    | true =>
      exfalso
      apply h
      refine .inr ⟨h1, h0, ?_⟩
      have h2 : s[0].toNat = 48 := by simp at hc; omega
      exact UInt8.toNat_inj.1 h2
end Go.Proofs.YtlipncdfmloijaaDoor

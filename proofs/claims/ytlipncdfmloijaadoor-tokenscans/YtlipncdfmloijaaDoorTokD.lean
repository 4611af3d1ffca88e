/- Contracts: a token of digits, of letters, of signs; the token at a place. -/
import Derived.Test.YtlipncdfmloijaaDoorTokC
namespace Go.Proofs.YtlipncdfmloijaaDoor
open Go.RowKit

/-- A token and no fault, or no token and a fault. -/
def ansV (a : Tk.Ans) (p : Nat) (t : ByteArray) : Value :=
  if a.code = 0 then .tuple #[.agg #[.int .i64 a.kind, .int .i64 (p : Int), .string t, .int .i64 a.n], .agg #[.int .i64 0, .int .i64 0]]
  else .tuple #[.agg #[.int .i64 0, .int .i64 0, .string ⟨#[]⟩, .int .i64 0], .agg #[.int .i64 a.code, .int .i64 (p : Int)]]

set_option maxHeartbeats 400000 in
theorem numberToken_any (s : ByteArray) (p : Nat) (w : World) (hs : s.size ≤ 1099511627776) :
    Calls Tryd.prog 62 #[.string s, .int .i64 p] w fun e w' => e = .returned (ansV (Tk.numAns s.data.toList) p s) ∧ Below w.heap.size w w' := by
  have hc := fun w => numberOf_any s w hs
  unfold Tk.numAns
  cases hn : Tk.numOf s.data.toList with
  | none =>
    rw [hn] at hc
    have HC := hide hc
    clear hc hn
    go_enter Tryd.func62, Tryd.ntmps62
    go_wp2_with fail
    refine (HC.out _).mono ?_
    rintro e w1 ⟨rfl, hw⟩
    subst hw
    go_wp2
    exact bodyPost_ret (v := ansV ⟨3, 0, 0, 0⟩ p s) (by simp [results, Tryd.results62, go_sem, ansV]) rfl ⟨rfl, by first | exact ((Below.refl _ _).alloc (Nat.le_refl _) _).alloc (by simp) _ | exact (((((((Below.refl _ _).alloc (Nat.le_refl _) _).alloc (by simp) _).setCell (by simp) _).setCell (by simp) _).setCell (by simp) _).setCell (by simp) _)⟩
  | some n =>
    rw [hn] at hc
    have HC := hide hc
    clear hc hn
    go_enter Tryd.func62, Tryd.ntmps62
    go_wp2_with fail
    refine (HC.out _).mono ?_
    rintro e w1 ⟨rfl, hw⟩
    subst hw
    go_wp2
    exact bodyPost_ret (v := ansV ⟨0, 3, s.data.toList.length, n⟩ p s) (by simp [results, Tryd.results62, go_sem, ansV]) rfl ⟨rfl, by first | exact ((Below.refl _ _).alloc (Nat.le_refl _) _).alloc (by simp) _ | exact (((((((Below.refl _ _).alloc (Nat.le_refl _) _).alloc (by simp) _).setCell (by simp) _).setCell (by simp) _).setCell (by simp) _).setCell (by simp) _)⟩

set_option maxHeartbeats 400000 in
theorem nameToken_any (s : ByteArray) (p : Nat) (w : World) (hw : WTab w) (hs : s.size ≤ 1099511627776) :
    Calls Tryd.prog 63 #[.string s, .int .i64 p] w fun e w' => e = .returned (ansV (Tk.nameAns s.data.toList) p s) ∧ Below w.heap.size w w' := by
  have hc := fun w hw => word_any s w hw
  have hz := Lib.size_eq s
  unfold Tk.nameAns
  cases hn : Tk.isW s.data.toList with
  | true =>
    rw [hn] at hc
    rw [if_pos rfl]
    have HC := hide hc
    have HW := hide hw
    clear hc hn hz hw
    go_enter Tryd.func63, Tryd.ntmps63
    go_wp2_with fail
    refine (HC.out _ (HW.out.below (by first | exact ((Below.refl _ _).alloc (Nat.le_refl _) _).alloc (by simp) _ | exact (((((((Below.refl _ _).alloc (Nat.le_refl _) _).alloc (by simp) _).setCell (by simp) _).setCell (by simp) _).setCell (by simp) _).setCell (by simp) _)))).mono ?_
    rintro e w1 ⟨rfl, hw⟩
    subst hw
    go_wp2
    exact bodyPost_ret (v := ansV ⟨0, 1, s.data.toList.length, 0⟩ p s) (by simp [results, Tryd.results63, go_sem, ansV]) rfl ⟨rfl, by first | exact ((Below.refl _ _).alloc (Nat.le_refl _) _).alloc (by simp) _ | exact (((((((Below.refl _ _).alloc (Nat.le_refl _) _).alloc (by simp) _).setCell (by simp) _).setCell (by simp) _).setCell (by simp) _).setCell (by simp) _)⟩
  | false =>
    rw [hn] at hc
    rw [if_neg (by simp)]
    have HC := hide hc
    have HW := hide hw
    by_cases h12 : 12 < s.size
    · rw [if_pos (by omega)]
      have d1 : decide ((12 : Int) < (s.size : Int)) = true := by simp; omega
      clear hc hn hz hw
      go_enter Tryd.func63, Tryd.ntmps63
      go_wp2_with fail
      refine (HC.out _ (HW.out.below (by first | exact ((Below.refl _ _).alloc (Nat.le_refl _) _).alloc (by simp) _ | exact (((((((Below.refl _ _).alloc (Nat.le_refl _) _).alloc (by simp) _).setCell (by simp) _).setCell (by simp) _).setCell (by simp) _).setCell (by simp) _)))).mono ?_
      rintro e w1 ⟨rfl, hw⟩
      subst hw
      go_wp2
      exact bodyPost_ret (v := ansV ⟨4, 0, 0, 0⟩ p s) (by simp [results, Tryd.results63, go_sem, ansV]) rfl ⟨rfl, by first | exact ((Below.refl _ _).alloc (Nat.le_refl _) _).alloc (by simp) _ | exact (((((((Below.refl _ _).alloc (Nat.le_refl _) _).alloc (by simp) _).setCell (by simp) _).setCell (by simp) _).setCell (by simp) _).setCell (by simp) _)⟩
    · rw [if_neg (by omega)]
      have d1 : decide ((12 : Int) < (s.size : Int)) = false := by simp; omega
      clear hc hn hz hw
      go_enter Tryd.func63, Tryd.ntmps63
      go_wp2_with fail
      refine (HC.out _ (HW.out.below (by first | exact ((Below.refl _ _).alloc (Nat.le_refl _) _).alloc (by simp) _ | exact (((((((Below.refl _ _).alloc (Nat.le_refl _) _).alloc (by simp) _).setCell (by simp) _).setCell (by simp) _).setCell (by simp) _).setCell (by simp) _)))).mono ?_
      rintro e w1 ⟨rfl, hw⟩
      subst hw
      go_wp2
      exact bodyPost_ret (v := ansV ⟨0, 2, s.data.toList.length, 0⟩ p s) (by simp [results, Tryd.results63, go_sem, ansV]) rfl ⟨rfl, by first | exact ((Below.refl _ _).alloc (Nat.le_refl _) _).alloc (by simp) _ | exact (((((((Below.refl _ _).alloc (Nat.le_refl _) _).alloc (by simp) _).setCell (by simp) _).setCell (by simp) _).setCell (by simp) _).setCell (by simp) _)⟩

def signBytes : ByteArray := ⟨#[40, 41, 123, 125, 44, 59, 43, 45, 42, 60, 61]⟩
theorem index_low (l : List UInt8) (c : UInt8) : -1 ≤ Lib.indexByte l c := by
  induction l with
  | nil => simp [Lib.indexByte]
  | cons b t ih =>
    simp only [Lib.indexByte]
    repeat' split
    all_goals omega
theorem index_has (l : List UInt8) (c : UInt8) : (0 ≤ Lib.indexByte l c) ↔ l.contains c = true := by
  induction l with
  | nil => simp [Lib.indexByte]
  | cons b t ih =>
    have hl := index_low t c
    simp only [Lib.indexByte, List.contains_cons, Bool.or_eq_true]
    rw [← ih]
    by_cases h : b = c
    · subst h; simp
    · have h1 : (b == c) = false := by simpa using h
      have h2 : (c == b) = false := by simpa using fun e => h e.symm
      rw [h1, h2]
      simp only [Bool.false_eq_true, if_false, false_or]
      by_cases h3 : Lib.indexByte t c = -1
      · rw [h3]; simp
      · rw [if_neg (by simpa using h3)]; omega
theorem index_signs (b : UInt8) : (0 ≤ Lib.indexByte signBytes.data.toList b) ↔ Tk.signs.contains b = true := index_has _ b
/-- How long the sign is (0: none). -/
def signLen (l : List UInt8) : Nat := if Lib.hasPrefix l [61, 61] then 2 else if Tk.signs.contains (l.headD 0) then 1 else 0

set_option maxHeartbeats 400000 in
theorem signSize_any (s : ByteArray) (w : World) (h0 : 0 < s.size) :
    Calls Tryd.prog 64 #[.string s] w fun e w' => e = .returned (.int .i64 (signLen s.data.toList : Int)) ∧ w' = w := by
  have hd := drop_at s 0 h0
  rw [List.drop_zero] at hd
  have hh : s.data.toList.headD 0 = s[0] := by rw [hd]; rfl
  unfold signLen
  rw [hh]
  clear hd hh
  have hp := fun w => hasPrefix_any s ⟨#[61, 61]⟩ w
  have hi := fun w => indexByte_any signBytes (s[0].toNat : Int) w
  have e1 : (⟨#[61, 61]⟩ : ByteArray).data.toList = [61, 61] := rfl
  rw [e1] at hp
  have e2 : ((s[0].toNat : Int)).toNat.toUInt8 = s[0] := by simp
  rw [e2] at hi
  have hx := index_signs s[0]
  have HP := hide hp
  have HI := hide hi
  clear hp hi
  cases hpre : Lib.hasPrefix s.data.toList [61, 61]
  · rw [if_neg (by simp)]
    generalize Lib.indexByte signBytes.data.toList s[0] = q at *
    cases hc : Tk.signs.contains s[0]
    · rw [if_neg (by simp)]
      have hq : decide (0 ≤ q) = false := by rw [hc] at hx; simpa using hx
      clear hx hc
      go_enter Tryd.func64, Tryd.ntmps64
      go_wp2_with (first | (go_at_call 79; refine (HP.out _).mono ?_; rintro e w' ⟨rfl, hw⟩; subst hw) | (go_at_call 80; refine (HI.out _).mono ?_; rintro e w' ⟨rfl, hw⟩; subst hw))
      go_ret
      exact ⟨rfl, rfl⟩
    · rw [if_pos rfl]
      have hq : decide (0 ≤ q) = true := by rw [hc] at hx; simpa using hx
      clear hx hc
      go_enter Tryd.func64, Tryd.ntmps64
      go_wp2_with (first | (go_at_call 79; refine (HP.out _).mono ?_; rintro e w' ⟨rfl, hw⟩; subst hw) | (go_at_call 80; refine (HI.out _).mono ?_; rintro e w' ⟨rfl, hw⟩; subst hw))
      go_ret
      exact ⟨rfl, rfl⟩
  · rw [if_pos rfl]
    clear hx
    go_enter Tryd.func64, Tryd.ntmps64
    go_wp2_with (first | (go_at_call 79; refine (HP.out _).mono ?_; rintro e w' ⟨rfl, hw⟩; subst hw) | (go_at_call 80; refine (HI.out _).mono ?_; rintro e w' ⟨rfl, hw⟩; subst hw))
    go_ret
    exact ⟨rfl, rfl⟩
end Go.Proofs.YtlipncdfmloijaaDoor

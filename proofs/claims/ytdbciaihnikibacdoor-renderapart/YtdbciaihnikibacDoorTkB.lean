import Derived.Test.YtdbciaihnikibacDoorTkA
/- Contracts: a token of digits, of letters, of signs; the token at a place. -/
namespace Go.Proofs.YtdbciaihnikibacDoor
open Go.RowKit

/-- A token and no fault, or no token and a fault. -/
def ansV (a : Tk.Ans) (p : Nat) (t : ByteArray) : Value :=
  if a.code = 0 then .tuple #[.agg #[.int .i64 a.kind, .int .i64 (p : Int), .string t, .int .i64 a.n], .agg #[.int .i64 0, .int .i64 0]]
  else .tuple #[.agg #[.int .i64 0, .int .i64 0, .string ⟨#[]⟩, .int .i64 0], .agg #[.int .i64 a.code, .int .i64 (p : Int)]]

def signBytes : ByteArray := ⟨#[40, 41, 123, 125, 44, 59, 43, 45, 42, 60, 61]⟩
theorem index_low (l : List UInt8) (c : UInt8) : -1 ≤ Lib.indexByte l c := by
  induction l with
  | nil => simp [Lib.indexByte]
  | cons b t ih =>
    simp only [Lib.indexByte]
    repeat' split
    all_goals omega
theorem index_has (l : List UInt8) (c : UInt8) : (0 ≤ Lib.indexByte l c) ↔ l.contains c = true := by
  induction l with
  | nil => simp [Lib.indexByte]
  | cons b t ih =>
    have hl := index_low t c
    simp only [Lib.indexByte, List.contains_cons, Bool.or_eq_true]
    rw [← ih]
    by_cases h : b = c
    · subst h; simp
    · have h1 : (b == c) = false := by simpa using h
      have h2 : (c == b) = false := by simpa using fun e => h e.symm
      rw [h1, h2]
      simp only [Bool.false_eq_true, if_false, false_or]
      by_cases h3 : Lib.indexByte t c = -1
      · rw [h3]; simp
      · rw [if_neg (by simpa using h3)]; omega
theorem index_signs (b : UInt8) : (0 ≤ Lib.indexByte signBytes.data.toList b) ↔ Tk.signs.contains b = true := index_has _ b
/-- How long the sign is (0: none). -/
def signLen (l : List UInt8) : Nat := if Lib.hasPrefix l [61, 61] then 2 else if Tk.signs.contains (l.headD 0) then 1 else 0

end Go.Proofs.YtdbciaihnikibacDoor
/- Contract: the token at a place of a text. -/
namespace Go.Proofs.YtdbciaihnikibacDoor
open Go.RowKit

theorem ansV_congr (a : Tk.Ans) (p : Nat) (t t' : ByteArray) (h : a.code = 0 → t = t') : ansV a p t = ansV a p t' := by
  unfold ansV
  split
  · rename_i h0; rw [h h0]
  · rfl
theorem ansV_form (a : Tk.Ans) (p : Nat) (t : ByteArray) : ∃ k q t' n c r, ansV a p t = .tuple #[.agg #[.int .i64 k, .int .i64 q, .string t', .int .i64 n], .agg #[.int .i64 c, .int .i64 r]] := by
  unfold ansV
  split
  · exact ⟨_, _, _, _, _, _, rfl⟩
  · exact ⟨_, _, _, _, _, _, rfl⟩
theorem ext_list (s : ByteArray) (a b : Nat) : (s.extract a b).data.toList = (s.data.toList.drop a).take (b - a) := by
  rw [← Lib.toList_data, Lib.extract_toList]
theorem signAns_eq (l : List UInt8) (hl : l ≠ []) : Tk.signAns l = if signLen l = 0 then ⟨2, 0, 0, 0⟩ else ⟨0, 4, signLen l, 0⟩ := by
  unfold Tk.signAns signLen
  split
  · exact absurd rfl hl
  · simp [Lib.hasPrefix]
  · rename_i b t hn
    have hp : Lib.hasPrefix (b :: t) [61, 61] = false := by
      cases hq : Lib.hasPrefix (b :: t) [61, 61] with
      | false => rfl
      | true =>
        exfalso
        obtain ⟨r, hr⟩ := List.isPrefixOf_iff_prefix.1 hq
        simp only [List.cons_append, List.nil_append, List.cons.injEq] at hr
        exact hn r hr.1.symm hr.2.symm
    rw [hp]
    by_cases hc : Tk.signs.contains b = true
    · simp only [List.headD_cons, hc, Bool.false_eq_true, if_false, if_true]
      rfl
    · simp only [List.headD_cons, hc, Bool.false_eq_true, if_false]
      rfl

theorem drop_ne (s : ByteArray) (p : Nat) (h : p < s.size) : s.data.toList.drop p ≠ [] := by
  rw [drop_at s p h]; simp
theorem head_run (s : ByteArray) (p r : Nat) (hr : 0 < r) (hp : p + r ≤ s.size) (h0 : 0 < (s.extract p (p + r)).size) : (s.extract p (p + r))[0] = (s.data.toList.drop p).headD 0 := by
  have h1 := drop_at (s.extract p (p + r)) 0 h0
  rw [List.drop_zero, ext_list] at h1
  rw [drop_at s p (by omega)] at h1 ⊢
  rw [show p + r - p = (r - 1) + 1 from by omega, List.take_succ_cons] at h1
  simp only [List.cons.injEq] at h1
  exact h1.1.symm

/-- The two results' own variables, as they were laid. -/
structure ResAt (w : World) (b : Nat) : Prop where
  c0 : w.cell? ⟨b, 0, none⟩ = some (.int .i64 0)
  c1 : w.cell? ⟨b, 1, none⟩ = some (.int .i64 0)
  c2 : w.cell? ⟨b, 2, none⟩ = some (.string ⟨#[]⟩)
  c3 : w.cell? ⟨b, 3, none⟩ = some (.int .i64 0)
  d0 : w.cell? ⟨b + 1, 0, none⟩ = some (.int .i64 0)
  d1 : w.cell? ⟨b + 1, 1, none⟩ = some (.int .i64 0)
  f0 : w.frozen? ⟨b, 0, none⟩ = false
  f1 : w.frozen? ⟨b, 1, none⟩ = false
  f2 : w.frozen? ⟨b, 2, none⟩ = false
  f3 : w.frozen? ⟨b, 3, none⟩ = false
  g0 : w.frozen? ⟨b + 1, 0, none⟩ = false
  g1 : w.frozen? ⟨b + 1, 1, none⟩ = false
theorem ext_bs (s : ByteArray) (p k : Nat) : s.extract p (p + k) = bs ((s.data.toList.drop p).take k) := by
  apply ByteArray.ext
  apply Array.toList_inj.1
  rw [ext_list, show p + k - p = k from by omega]
  simp [bs]
theorem signLen_le (l : List UInt8) (hl : l ≠ []) : signLen l ≤ l.length := by
  have h1 := List.length_pos_iff.2 hl
  unfold signLen
  split
  · rename_i h
    exact (List.isPrefixOf_iff_prefix.1 h).length_le
  · split <;> omega

end Go.Proofs.YtdbciaihnikibacDoor

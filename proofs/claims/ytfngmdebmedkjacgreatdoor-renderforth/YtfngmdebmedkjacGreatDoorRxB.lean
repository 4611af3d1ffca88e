import Derived.Test.YtfngmdebmedkjacGreatDoorRxA
import Derived.Test.YtfngmdebmedkjacGreatDoorTkC
/- How many parts an expression has: both reckonings. -/
namespace Go.Proofs.YtfngmdebmedkjacGreatDoor
open Go.RowKit

theorem sum_nth (f : Sx.Tr → Nat) {l : List Sx.Tr} {i : Nat} {d : Sx.Tr} (h : l[i]? = some d) : Sx.sum f (l.take i) + f d ≤ Sx.sum f l := by
  have := Sx.sum_take f l i d h
  have := Sx.sum_take_le f l (i + 1)
  omega

end Go.Proofs.YtfngmdebmedkjacGreatDoor


/- The parts of an expression, counted up to a number. -/
namespace Go.Proofs.YtfngmdebmedkjacGreatDoor
open Go.RowKit

theorem Rn.cpl_le (g : Nat → Sx.Tr → Nat) (p : Sx.Tr → Nat) (h : ∀ m d, g m d ≤ p d) (most acc : Nat) (l : List Sx.Tr) : Rn.cpl g most acc l ≤ acc + Sx.sum p l := by
  induction l generalizing acc with
  | nil => simp [Rn.cpl, Sx.sum]
  | cons d r ih =>
    simp only [Rn.cpl, Sx.sum]
    split
    · omega
    · have h1 := ih (acc + g (most - acc) d)
      have h2 := h (most - acc) d
      omega
theorem Rn.cpt_le (n : Nat) : ∀ m d, Rn.cpt n m d ≤ Rn.prt n d := by
  induction n with
  | zero => intro m d; simp [Rn.cpt, Rn.prt]
  | succ n ih =>
    intro m d
    have := Rn.cpl_le (Rn.cpt n) (Rn.prt n) ih m 1 (Sx.eL d)
    simp only [Rn.cpt, Rn.prt, Rn.wE_prt]
    exact this
theorem drop_nth {α : Type} {l : List α} {k : Nat} {d : α} (h : l[k]? = some d) : l.drop k = d :: l.drop (k + 1) := by
  obtain ⟨hk, rfl⟩ := List.getElem?_eq_some_iff.mp h
  exact List.drop_eq_getElem_cons hk

/-- Contract: the parts of an expression, counted up to a number. -/
def CPt (n : Nat) : Prop := ∀ (w : World) (P : Nat → Prop) (op z : Int) (nm : List UInt8) (L : List Sx.Tr) (a : Option Addr) (c m : Nat), EL w P n L (.slice a L.length c) → Sx.wE n L ≤ 1000000000 → m ≤ 1000000000 →
  Calls Tryz.prog 159 #[.agg #[.int .i64 op, .string (bs nm), .int .i64 z, .slice a L.length c], .int .i64 m] w fun e w' => e = .returned (.int .i64 ((Rn.cpt n m (Sx.tE op nm z L) : Nat) : Int)) ∧ Kp [] w w'

set_option maxRecDepth 100000 in
set_option maxHeartbeats 1000000 in
theorem countParts_step (n : Nat) (ih : CPt n) : CPt (n + 1) := by
  intro w P op z nm L a c m h hw hm
  have HS := hide h
  have IH := hide ih
  have hwE := Rn.wE_prt n L
  have hl : L.length ≤ 1000000000 := by have : L.length + _ = Sx.wE (n + 1) L := rfl; omega
  have hsum : Sx.sum (Rn.prt n) L ≤ 1000000000 := by omega
  clear h ih hwE
  go_enter Tryz.func159, Tryz.ntmps159
  go_wp2
  go_loopw [5, 11] (fun nv iv wr => ∃ (k acc : Nat), k ≤ L.length ∧ iv = .int .i64 k ∧ nv = .int .i64 (acc : Int) ∧ acc ≤ 1 + Sx.sum (Rn.prt n) (L.take k) ∧ Hid (Rn.cpt (n + 1) m (Sx.tE op nm z L) = Rn.cpl (Rn.cpt n) m acc (L.drop k)) ∧ Hid (Kp [] w wr)) (fun _ iv _ => L.length - (intOf iv).toNat)
  case atStart => exact ⟨0, 1, Nat.zero_le _, rfl, rfl, by simp, rfl, (Kp.refl _ _).alloc _⟩
  case round =>
    obtain ⟨k, acc, hk, rfl, rfl, ha, HA, HK⟩ := hrel
    by_cases hlt : k < L.length
    · have d1 : decide ((k : Int) < (L.length : Int)) = true := by simp; omega
      obtain ⟨b, off, op1, nm1, z1, L1, aL, cL, rfl, -, hd, m0, m1, m2, m3, hL⟩ := (HS.out.keep HK.out (by simp)).nth k hlt
      have hst : Sx.sum (Rn.prt n) (L.take (k + 1)) = Sx.sum (Rn.prt n) (L.take k) + (1 + Sx.wE n L1) := Sx.sum_take (Rn.prt n) L k _ hd
      have hsl : Sx.sum (Rn.prt n) (L.take k) + (1 + Sx.wE n L1) ≤ Sx.sum (Rn.prt n) L := sum_nth (Rn.prt n) hd
      have HST := hide hst
      have HDR := hide (drop_nth hd)
      have HL := hide hL
      have hk0 : (0 : Int) ≤ (k : Int) := by omega
      have hk1 : (k : Int) < (L.length : Int) := by omega
      clear hst hL hd
      by_cases hb : m < acc
      · have d2 : decide ((m : Int) < (acc : Int)) = true := by simp; omega
        go_wp2
        go_ret
        refine ⟨?_, HK.out.alloc _⟩
        rw [HA.out, HDR.out, Rn.cpl, if_pos hb]
        rfl
      · have d2 : decide ((m : Int) < (acc : Int)) = false := by simp; omega
        have hcl : Rn.cpt n (m - acc) (Sx.tE op1 nm1 z1 L1) ≤ 1 + Sx.wE n L1 := Rn.cpt_le n _ _
        have HX := hide (HA.out.trans (by rw [HDR.out, Rn.cpl, if_neg hb]))
        have hsub : IntKind.i64.wrap ((m : Int) - (acc : Int)) = ((m - acc : Nat) : Int) := by simp only [IntKind.wrap_i64]; omega
        go_wp2_with fail
        refine (IH.out _ P op1 z1 nm1 L1 aL cL (m - acc) (HL.out.keep ((Kp.refl [] _).alloc _) (by simp)) (by omega) (by omega)).mono ?_
        rintro e w1 ⟨rfl, hk1⟩
        have K1 := hide hk1
        clear hk1
        generalize Rn.cpt n (m - acc) (Sx.tE op1 nm1 z1 L1) = X at *
        go_wp2
        go_roundw
        case rel => exact ⟨k + 1, acc + X, by omega, by go_num, by first | (congr 1; push_cast; omega) | go_num, by rw [HST.out]; omega, HX.out, (HK.out.alloc _).trans K1.out⟩
        case measure => simp [intOf]; omega
    · obtain rfl : k = L.length := by omega
      have d1 : decide ((L.length : Int) < (L.length : Int)) = false := by simp
      go_wp2
      go_ret
      refine ⟨?_, HK.out⟩
      rw [HA.out, List.drop_length]
      rfl
theorem countParts_any (n : Nat) : CPt n := by
  induction n with
  | zero => intro w P op z nm L a c m h; cases h
  | succ n ih => exact countParts_step n ih
end Go.Proofs.YtfngmdebmedkjacGreatDoor


/- Contracts of the document's own small functions: letters, digits, words, names, where a run ends, what digits say. -/
namespace Go.Proofs.YtfngmdebmedkjacGreatDoor
open Go.RowKit
end Go.Proofs.YtfngmdebmedkjacGreatDoor


/- What is wrong with an expression: the document's own reckoning. -/
namespace Go.Proofs.YtfngmdebmedkjacGreatDoor
open Go.RowKit

theorem bs0 : (bs []).toList = [] := by rw [Lib.toList_data, bs_list]
/-- No name is longer than there can be. -/
def Rn.nmE : Nat → Sx.Tr → Prop
  | 0, _ => True
  | n + 1, d => (Sx.eH d).2.1.length ≤ 1099511627776 ∧ ∀ (i : Nat) x, (Sx.eL d)[i]? = some x → Rn.nmE n x

/-- The form of an expression is wrong. -/
def Rn.badF (op z : Int) (nm : List UInt8) (len : Nat) : Prop := op < 1 ∨ 8 < op ∨ len ≠ Rn.want op ∨ (z ≠ 0 ∧ op ≠ 1) ∨ (nm ≠ [] ∧ op ≠ 2)
theorem Rn.xf_bad {n : Nat} {op z : Int} {nm : List UInt8} {L : List Sx.Tr} (h : Rn.badF op z nm L.length) : Rn.xf (n + 1) (Sx.tE op nm z L) = 5 := if_pos h
theorem Rn.xf_ok {n : Nat} {op z : Int} {nm : List UInt8} {L : List Sx.Tr} (h : ¬ Rn.badF op z nm L.length) : Rn.xf (n + 1) (Sx.tE op nm z L) =
    if op = 2 ∧ Tk.isN nm = false then 4 else if z < 0 ∨ 1000000000000000000 ≤ z then 3 else Rn.firstOf (Rn.xf n) L := if_neg h

end Go.Proofs.YtfngmdebmedkjacGreatDoor


/- An expression of a wrong form: the document's own reckoning. -/
namespace Go.Proofs.YtfngmdebmedkjacGreatDoor
open Go.RowKit
end Go.Proofs.YtfngmdebmedkjacGreatDoor


/- What is wrong with an expression: the document's own reckoning, whole. -/
namespace Go.Proofs.YtfngmdebmedkjacGreatDoor
open Go.RowKit
end Go.Proofs.YtfngmdebmedkjacGreatDoor


/- The document's own reckoning: types, the fields of a kind. -/
namespace Go.Proofs.YtfngmdebmedkjacGreatDoor
open Go.RowKit

theorem bsl (c : List UInt8) : (bs c).toList = c := by rw [Lib.toList_data, bs_list]
theorem bsz (c : List UInt8) : (bs c).size = c.length := by show c.toArray.size = _; simp
theorem bsx (c : List UInt8) (a b : Nat) : ((bs c).extract a b).toList = (c.drop a).take (b - a) := by rw [Lib.extract_toList, ← Lib.toList_data, bsl]
theorem Rn.sides_cat (r : List UInt8) (c : UInt8) : Rn.sides (r ++ [c]) = (r.all (fun b => b == 115 || b == 114) && c == 105) := by
  induction r with
  | nil => simp [Rn.sides]
  | cons b r ih =>
    rw [List.cons_append, List.all_cons, Bool.and_assoc, ← ih]
    cases r with
    | nil => rfl
    | cons d r => rfl
theorem Rn.isT_cat (r : List UInt8) (c : UInt8) (ends : Int) : Rn.isT (r ++ [c]) ends = ((r.all (fun b => b == 115 || b == 114) && c == 105) && decide ((r.length : Int) ≤ ends)) := by
  have e : (((r ++ [c]).length : Nat) : Int) - 1 = (r.length : Int) := by simp
  rw [Rn.isT, Rn.sides_cat, e]

/-- The letters of a kind's fields. -/
def Rn.fA (d : Int) : UInt8 := if Rn.hasA d then 65 else 45
def Rn.fB (d : Int) : UInt8 := if Rn.hasB d then 66 else 45
def Rn.fT (d : Int) : UInt8 := if Rn.hasT d then 84 else 45
def Rn.fN (d : Int) : UInt8 := if Rn.hasT d then 78 else 45
def Rn.fE (d : Int) : UInt8 := if d = 10 then 42 else if Rn.fewE d = 1 then 49 else 48
def Rn.fS (d : Int) : UInt8 := if Rn.hasS d then 66 else 45
def Rn.fO (d : Int) : UInt8 := if Rn.hasO d then 69 else 45
def Rn.fld (d : Int) : List UInt8 := [Rn.fA d, Rn.fB d, Rn.fT d, Rn.fN d, Rn.fE d, Rn.fS d, Rn.fO d]

theorem Rn.kinds {d : Int} (h1 : 1 ≤ d) (h2 : d ≤ 14) : d = 1 ∨ d = 2 ∨ d = 3 ∨ d = 4 ∨ d = 5 ∨ d = 6 ∨ d = 7 ∨ d = 8 ∨ d = 9 ∨ d = 10 ∨ d = 11 ∨ d = 12 ∨ d = 13 ∨ d = 14 := by omega
end Go.Proofs.YtfngmdebmedkjacGreatDoor

import Derived.Test.YtfngmdebmedkjacGreatDoorRxR
import Derived.Test.YtfngmdebmedkjacGreatDoorRxV
import Derived.Deep.RegionHeldLaw
import Derived.BigQuiet
/- The first fault of a program: the document's own reckoning. -/
namespace Go.Proofs.YtfngmdebmedkjacGreatDoor
open Go.RowKit
/-- What the reckoning keeps beside it: the program's box, the answer. -/
structure FB (w : World) (v : Value) (wr : World) : Prop where
  kp : Kp [] w wr
  bx : wr.cell? ⟨w.heap.size, 0, none⟩ = some v
  r0 : wr.cell? ⟨w.heap.size + 1, 0, none⟩ = some (.int .i64 0)
  r1 : wr.cell? ⟨w.heap.size + 1, 1, none⟩ = some (.int .i64 0)
  f0 : wr.frozen? ⟨w.heap.size + 1, 0, none⟩ = false
  f1 : wr.frozen? ⟨w.heap.size + 1, 1, none⟩ = false
theorem FB.go {w wr w' : World} {v : Value} (h : FB w v wr) (hk : Kp [] wr w') : FB w v w' :=
  ⟨h.kp.trans hk, hk.some h.bx (by simp), hk.some h.r0 (by simp), hk.some h.r1 (by simp), (hk.frozen (p := ⟨w.heap.size + 1, 0, none⟩) (World.block_lt_of_cell? _ _ h.r0) (by simp)).trans h.f0, (hk.frozen (p := ⟨w.heap.size + 1, 1, none⟩) (World.block_lt_of_cell? _ _ h.r1) (by simp)).trans h.f1⟩

end Go.Proofs.YtfngmdebmedkjacGreatDoor


/- The text of a type: the document's own. -/
namespace Go.Proofs.YtfngmdebmedkjacGreatDoor
open Go.RowKit

theorem bs_append (a b : List UInt8) : bs a ++ bs b = bs (a ++ b) := by
  apply ByteArray.ext
  show (bs a ++ bs b).data = _
  rw [ByteArray.data_append]
  simp [bs]
/-- A type is sides, then the letter i. -/
theorem Rn.isT_cut {t : List UInt8} {ends : Int} (h : Rn.isT t ends = true) : ∃ r, t = r ++ [105] ∧ ∀ b ∈ r, b = 115 ∨ b = 114 := by
  rcases List.eq_nil_or_concat t with rfl | ⟨r, c, rfl⟩
  · cases h
  · rw [List.concat_eq_append] at h ⊢
    rw [Rn.isT_cat] at h
    simp only [Bool.and_eq_true, List.all_eq_true, Bool.or_eq_true, beq_iff_eq] at h
    obtain ⟨⟨h1, rfl⟩, _⟩ := h
    exact ⟨r, rfl, h1⟩
end Go.Proofs.YtfngmdebmedkjacGreatDoor


/- The text of an expression: the document's own. -/
namespace Go.Proofs.YtfngmdebmedkjacGreatDoor
open Go.RowKit

/-- How tightly it must bind, in the document's numbers. -/
def Rn.mR (m : Nat) : Nat := if m = 0 then 0 else m + 1
def Rn.bi (op : Int) : Nat := if op = 1 ∨ op = 2 then 9 else if op = 3 then 4 else if op = 4 ∨ op = 5 then 2 else if op = 6 then 3 else 1
theorem Rn.bi_must {op : Int} {must : Nat} (h1 : 1 ≤ op) (h2 : op ≤ 8) (hm : must ≤ 3) : decide ((Rn.bi op : Int) < (Rn.mR must : Int)) = decide (Rn.holds op < must) := by
  have h : op = 1 ∨ op = 2 ∨ op = 3 ∨ op = 4 ∨ op = 5 ∨ op = 6 ∨ op = 7 ∨ op = 8 := by omega
  have hm' : must = 0 ∨ must = 1 ∨ must = 2 ∨ must = 3 := by omega
  rcases h with rfl | rfl | rfl | rfl | rfl | rfl | rfl | rfl <;> rcases hm' with rfl | rfl | rfl | rfl <;> rfl
theorem wr_0 : IntKind.i64.wrap 0 = 0 := by decide
theorem wr_1 : IntKind.i64.wrap 1 = 1 := by decide
theorem wr_2 : IntKind.i64.wrap 2 = 2 := by decide
theorem wr_3 : IntKind.i64.wrap 3 = 3 := by decide
theorem wr_4 : IntKind.i64.wrap 4 = 4 := by decide
theorem Rn.brk_false (x : List UInt8) : Rn.brk false x = x := rfl
theorem Rn.brk_true (x : List UInt8) : Rn.brk true x = [40] ++ x ++ [41] := rfl

end Go.Proofs.YtfngmdebmedkjacGreatDoor


/- The text of an operation: the document's own. -/
namespace Go.Proofs.YtfngmdebmedkjacGreatDoor
open Go.RowKit
end Go.Proofs.YtfngmdebmedkjacGreatDoor


/- The text of an operation: the document's own. -/
namespace Go.Proofs.YtfngmdebmedkjacGreatDoor
open Go.RowKit
end Go.Proofs.YtfngmdebmedkjacGreatDoor


/- The text of an operation: the document's own. -/
namespace Go.Proofs.YtfngmdebmedkjacGreatDoor
open Go.RowKit
end Go.Proofs.YtfngmdebmedkjacGreatDoor


/- The text of an operation: the document's own. -/
namespace Go.Proofs.YtfngmdebmedkjacGreatDoor
open Go.RowKit
end Go.Proofs.YtfngmdebmedkjacGreatDoor


/- The text of an operation: the document's own. -/
namespace Go.Proofs.YtfngmdebmedkjacGreatDoor
open Go.RowKit
end Go.Proofs.YtfngmdebmedkjacGreatDoor


/- The text of an expression: the document's own, whole. -/
namespace Go.Proofs.YtfngmdebmedkjacGreatDoor
open Go.RowKit

theorem Rn.prt_two (n : Nat) (op z : Int) (nm : List UInt8) (d1 d2 : Sx.Tr) : Rn.prt (n + 1) (Sx.tE op nm z [d1, d2]) = 1 + (Rn.prt n d1 + Rn.prt n d2) := by
  show 1 + Sx.wE (n + 1) [d1, d2] = _
  rw [Rn.wE_prt]
  rfl
theorem Rn.prt_one (n : Nat) (op z : Int) (nm : List UInt8) (d1 : Sx.Tr) : Rn.prt (n + 1) (Sx.tE op nm z [d1]) = 1 + Rn.prt n d1 := by
  show 1 + Sx.wE (n + 1) [d1] = _
  rw [Rn.wE_prt]
  rfl
end Go.Proofs.YtfngmdebmedkjacGreatDoor


/- Texts of statements: what the document's own reckoning is held against. -/
namespace Go.Proofs.YtfngmdebmedkjacGreatDoor
open Go.RowKit

theorem Rn.blt_small {n k : Nat} {w : World} {P : Nat → Prop} {l : List Sx.Tr} {v : Value} (h : SL w P n l v) (ho : Rn.okB n l) (hk : k + n ≤ 1500000) (hw : Sx.wS n l ≤ 1000000) : (Rn.blt n k l).length ≤ 5000000000000 := by
  have h1 := Rn.blt_len n w P l v k 4600000 h ho (by omega)
  have h2 : Sx.wS n l * 4600000 ≤ 1000000 * 4600000 := Nat.mul_le_mul_right _ hw
  omega
/-- Expressions with commas between, and a blank ahead where it is no spawn. -/
def Rn.el (sp : Bool) (l : List (List UInt8)) : List UInt8 := (if sp || l.isEmpty then [] else [32]) ++ Rn.com l
theorem Rn.el_take {sp : Bool} {l : List (List UInt8)} {i : Nat} {s : List UInt8} (h : l[i]? = some s) : Rn.el sp (l.take (i + 1)) = Rn.el sp (l.take i) ++ ((if i = 0 then [] else [44]) ++ (if i = 0 ∧ sp = true then [] else [32]) ++ s) := by
  have hi : i < l.length := (List.getElem?_eq_some_iff.1 h).1
  unfold Rn.el
  rw [Rn.com_take h]
  have e1 : (l.take (i + 1)).isEmpty = false := by cases l with
    | nil => simp at hi
    | cons a r => rfl
  rw [e1]
  by_cases h0 : i = 0
  · subst h0
    cases sp <;> simp [Rn.com]
  · have e2 : (l.take i).isEmpty = false := by cases l with
      | nil => simp at hi
      | cons a r => cases i with
        | zero => exact absurd rfl h0
        | succ i => rfl
    rw [e2]
    cases sp <;> simp [h0]
theorem Rn.el_len (sp : Bool) (l : List (List UInt8)) : (Rn.el sp l).length ≤ (Rn.com l).length + 1 := by
  unfold Rn.el
  rw [List.length_append]
  split <;> simp
  omega
theorem Rn.com_few {n : Nat} {D : Int} {A B T : List UInt8} {N : Int} {E body els : List Sx.Tr} (h : Rn.Okf n D A B T N E body els) (i : Nat) : (Rn.com ((E.map (Rn.xt n 0)).take i)).length ≤ 3700 := by
  refine Nat.le_trans (Rn.com_take_le _ i) ?_
  have := Rn.com_len (c := 600) (E.map (Rn.xt n 0)) (by
    intro s hs
    obtain ⟨d, hd, rfl⟩ := List.mem_map.1 hs
    obtain ⟨i, hi⟩ := List.getElem?_of_mem hd
    have h1 := Rn.xt_len n 0 d (h.xs i d hi)
    have h2 := h.prt i d hi
    omega)
  rw [List.length_map] at this
  have h6 := h.few
  have : E.length * (600 + 2) ≤ 6 * 602 := Nat.mul_le_mul_right 602 h6
  omega
theorem Rn.isN_ne {l : List UInt8} (h : Tk.isN l = true) : ((bs l).toList == []) = false := by
  rw [bsl]
  cases l with
  | nil => cases h
  | cons a r => rfl
end Go.Proofs.YtfngmdebmedkjacGreatDoor


/- Texts of statements: kind 1. -/
namespace Go.Proofs.YtfngmdebmedkjacGreatDoor
open Go.RowKit
end Go.Proofs.YtfngmdebmedkjacGreatDoor


/- Texts of statements: kind 2. -/
namespace Go.Proofs.YtfngmdebmedkjacGreatDoor
open Go.RowKit
end Go.Proofs.YtfngmdebmedkjacGreatDoor


/- Texts of statements: kind 3. -/
namespace Go.Proofs.YtfngmdebmedkjacGreatDoor
open Go.RowKit
end Go.Proofs.YtfngmdebmedkjacGreatDoor


/- Texts of statements: kind 4. -/
namespace Go.Proofs.YtfngmdebmedkjacGreatDoor
open Go.RowKit
end Go.Proofs.YtfngmdebmedkjacGreatDoor


/- Texts of statements: kind 5. -/
namespace Go.Proofs.YtfngmdebmedkjacGreatDoor
open Go.RowKit
end Go.Proofs.YtfngmdebmedkjacGreatDoor


/- Texts of statements: kind 6. -/
namespace Go.Proofs.YtfngmdebmedkjacGreatDoor
open Go.RowKit
end Go.Proofs.YtfngmdebmedkjacGreatDoor


/- Texts of statements: kind 7. -/
namespace Go.Proofs.YtfngmdebmedkjacGreatDoor
open Go.RowKit
end Go.Proofs.YtfngmdebmedkjacGreatDoor


/- Texts of statements: kind 8. -/
namespace Go.Proofs.YtfngmdebmedkjacGreatDoor
open Go.RowKit
end Go.Proofs.YtfngmdebmedkjacGreatDoor


/- Texts of statements: kind 9. -/
namespace Go.Proofs.YtfngmdebmedkjacGreatDoor
open Go.RowKit
end Go.Proofs.YtfngmdebmedkjacGreatDoor


/- Texts of statements: kind 10. -/
namespace Go.Proofs.YtfngmdebmedkjacGreatDoor
open Go.RowKit
end Go.Proofs.YtfngmdebmedkjacGreatDoor


/- Texts of statements: kind 11. -/
namespace Go.Proofs.YtfngmdebmedkjacGreatDoor
open Go.RowKit
end Go.Proofs.YtfngmdebmedkjacGreatDoor


/- Texts of statements: kind 12. -/
namespace Go.Proofs.YtfngmdebmedkjacGreatDoor
open Go.RowKit
end Go.Proofs.YtfngmdebmedkjacGreatDoor


/- Texts of statements: kind 13. -/
namespace Go.Proofs.YtfngmdebmedkjacGreatDoor
open Go.RowKit
end Go.Proofs.YtfngmdebmedkjacGreatDoor


/- Texts of statements: kind 14. -/
namespace Go.Proofs.YtfngmdebmedkjacGreatDoor
open Go.RowKit
end Go.Proofs.YtfngmdebmedkjacGreatDoor


/- Texts of statements and blocks: the document's own, whole. -/
namespace Go.Proofs.YtfngmdebmedkjacGreatDoor
open Go.RowKit
theorem Rn.tabs_succ (k : Nat) : bs (Rn.tabs k) ++ ⟨#[9]⟩ = bs (Rn.tabs (k + 1)) := by
  rw [show (⟨#[9]⟩ : ByteArray) = bs [9] from rfl, bs_append, Rn.tabs, Rn.tabs, List.replicate_succ']
end Go.Proofs.YtfngmdebmedkjacGreatDoor


/- The text of a program: the document's own. -/
namespace Go.Proofs.YtfngmdebmedkjacGreatDoor
open Go.RowKit

theorem Rn.hf_par {g : Sx.Tr} (h : Rn.hf g = 0) : Tk.isN (Sx.gN g) = true ∧ ∀ p ∈ Sx.gP g, Tk.isN (Sx.pH p).1 = true ∧ Rn.isT (Sx.pH p).2 3 = true := by
  unfold Rn.hf at h
  split at h
  · cases h
  rename_i h1
  split at h
  · cases h
  refine ⟨?_, fun p hp => ?_⟩
  · cases hh : Tk.isN (Sx.gN g) with
    | true => rfl
    | false => exact absurd hh h1
  · have h3 := Rn.firstOf_zero h p hp
    split at h3
    · cases h3
    rename_i h4
    split at h3
    · cases h3
    rename_i h5
    refine ⟨?_, ?_⟩
    · cases hh : Tk.isN (Sx.pH p).1 with
      | true => rfl
      | false => exact absurd hh h4
    · cases hh : Rn.isT (Sx.pH p).2 3 with
      | true => rfl
      | false => exact absurd hh h5
theorem Rn.isT_len {t : List UInt8} (h : Rn.isT t 3 = true) : t.length ≤ 4 := by
  unfold Rn.isT at h
  simp only [Bool.and_eq_true, decide_eq_true_eq] at h
  omega
end Go.Proofs.YtfngmdebmedkjacGreatDoor


/- What is told of a program: the document's own. -/
namespace Go.Proofs.YtfngmdebmedkjacGreatDoor
open Go.RowKit
end Go.Proofs.YtfngmdebmedkjacGreatDoor

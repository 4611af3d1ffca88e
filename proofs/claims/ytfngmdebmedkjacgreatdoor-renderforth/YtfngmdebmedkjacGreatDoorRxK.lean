import Derived.Test.YtfngmdebmedkjacGreatDoorRxG
import Derived.Lib.ItoaMem
import Derived.BigQuiet
import Derived.Deep.RegionHeldLaw
import Derived.Test.YtfngmdebmedkjacGreatDoorRxN
/- The document's own reckoning: the form of a statement. -/
namespace Go.Proofs.YtfngmdebmedkjacGreatDoor
open Go.RowKit

theorem Rn.z_of (h : Bool) (l : UInt8) (hl : l ≠ 45) (b : Bool) : ([if h then l else 45] != [45] || b) = (h || b) := by
  cases h with
  | true => have : ([l] != [45]) = true := by simpa using hl
            simp only [if_true, this, Bool.true_or]
  | false => rfl
theorem dec_ne (u : Nat) : Lib.decDigits u ≠ [] := by
  rw [Lib.decDigits]
  split
  · simp
  · simp
theorem itoa_digit (n c : Nat) (hc : c < 10) : (Lib.itoa n == [UInt8.ofNat (48 + c)]) = (n == c) := by
  rw [Lib.itoa_nonneg]
  by_cases h : n < 10
  · rw [Lib.decDigits_one h]
    by_cases e : n = c
    · subst e; simp
    · have e1 : (n == c) = false := by simpa using e
      rw [e1]
      apply beq_eq_false_iff_ne.2
      intro hh
      have := congrArg (fun l : List UInt8 => (l.headD 0).toNat) hh
      simp [UInt8.toNat_ofNat'] at this
      omega
  · have e1 : (n == c) = false := by simp; omega
    rw [e1, Lib.decDigits, dif_neg h]
    apply beq_eq_false_iff_ne.2
    intro hh
    have := congrArg List.length hh
    simp at this
    exact dec_ne _ this

end Go.Proofs.YtfngmdebmedkjacGreatDoor


/- The form of a statement, the document's own reckoning: a part. -/
namespace Go.Proofs.YtfngmdebmedkjacGreatDoor
open Go.RowKit
end Go.Proofs.YtfngmdebmedkjacGreatDoor


/- The form of a statement, the document's own reckoning: a part. -/
namespace Go.Proofs.YtfngmdebmedkjacGreatDoor
open Go.RowKit
end Go.Proofs.YtfngmdebmedkjacGreatDoor


/- The form of a statement, the document's own reckoning: a part. -/
namespace Go.Proofs.YtfngmdebmedkjacGreatDoor
open Go.RowKit
end Go.Proofs.YtfngmdebmedkjacGreatDoor


/- The form of a statement, the document's own reckoning: a part. -/
namespace Go.Proofs.YtfngmdebmedkjacGreatDoor
open Go.RowKit
end Go.Proofs.YtfngmdebmedkjacGreatDoor


/- The form of a statement, the document's own reckoning: a part. -/
namespace Go.Proofs.YtfngmdebmedkjacGreatDoor
open Go.RowKit
end Go.Proofs.YtfngmdebmedkjacGreatDoor


/- The form of a statement, the document's own reckoning: a part. -/
namespace Go.Proofs.YtfngmdebmedkjacGreatDoor
open Go.RowKit
end Go.Proofs.YtfngmdebmedkjacGreatDoor


/- The form of a statement, the document's own reckoning: a part. -/
namespace Go.Proofs.YtfngmdebmedkjacGreatDoor
open Go.RowKit
end Go.Proofs.YtfngmdebmedkjacGreatDoor


/- The form of a statement: the document's own reckoning, whole. -/
namespace Go.Proofs.YtfngmdebmedkjacGreatDoor
open Go.RowKit
end Go.Proofs.YtfngmdebmedkjacGreatDoor


/- What is wrong with a statement itself: the document's own reckoning. -/
namespace Go.Proofs.YtfngmdebmedkjacGreatDoor
open Go.RowKit
end Go.Proofs.YtfngmdebmedkjacGreatDoor


/- What is wrong with a statement itself, the document's own reckoning: a part. -/
namespace Go.Proofs.YtfngmdebmedkjacGreatDoor
open Go.RowKit
end Go.Proofs.YtfngmdebmedkjacGreatDoor


/- What is wrong with a statement itself, the document's own reckoning: a part. -/
namespace Go.Proofs.YtfngmdebmedkjacGreatDoor
open Go.RowKit
end Go.Proofs.YtfngmdebmedkjacGreatDoor


/- What is wrong with a statement itself, the document's own reckoning: a part. -/
namespace Go.Proofs.YtfngmdebmedkjacGreatDoor
open Go.RowKit
end Go.Proofs.YtfngmdebmedkjacGreatDoor


/- What is wrong with a statement itself, the document's own reckoning: a part. -/
namespace Go.Proofs.YtfngmdebmedkjacGreatDoor
open Go.RowKit
end Go.Proofs.YtfngmdebmedkjacGreatDoor


/- What is wrong with a statement itself: the document's own reckoning, whole. -/
namespace Go.Proofs.YtfngmdebmedkjacGreatDoor
open Go.RowKit
end Go.Proofs.YtfngmdebmedkjacGreatDoor


/- Faults of blocks, plain: how many statements there are then, and that no name is longer than there can be. -/
namespace Go.Proofs.YtfngmdebmedkjacGreatDoor
open Go.RowKit

/-- No text of a statement is longer than there can be. -/
def Rn.nmS : Nat → List Sx.Tr → Prop
  | 0, _ => True
  | n + 1, l => ∀ (i : Nat) t, l[i]? = some t → (Sx.sH t).2.1.length ≤ 1099511627776 ∧ (Sx.sH t).2.2.1.length ≤ 1099511627776 ∧ (Sx.sH t).2.2.2.1.length ≤ 1099511627776 ∧
      (∀ (j : Nat) x, (Sx.sE t)[j]? = some x → Rn.nmE n x) ∧ Rn.nmS n (Sx.sB t) ∧ Rn.nmS n (Sx.sO t)
/-- One statement, and what is in it. -/
def Rn.b1 (n deep : Nat) (a : Nat) (t : Sx.Tr) : Rn.Bf :=
  if 300 ≤ a then .inr (8, a) else if Rn.sf n deep t ≠ 0 then .inr (Rn.sf n deep t, a)
  else Rn.thn (Rn.bf n (deep + 1) (a + 1) (Sx.sB t)) fun b => Rn.bf n (deep + 1) b (Sx.sO t)
theorem Rn.bf_goS (n deep a : Nat) (l : List Sx.Tr) : Rn.bf (n + 1) deep a l = Rn.goS (Rn.b1 n deep) a l := rfl
theorem Rn.goS_drop {g : Nat → Sx.Tr → Rn.Bf} {l : List Sx.Tr} {k a : Nat} {t : Sx.Tr} (h : l[k]? = some t) : Rn.goS g a (l.drop k) = Rn.thn (g a t) fun b => Rn.goS g b (l.drop (k + 1)) := by
  rw [drop_nth h]
  rfl
theorem Rn.thn_le {m : Rn.Bf} {k : Nat → Rn.Bf} {c : Nat} (h : Rn.thn m k = .inl c) : ∃ b, m = .inl b ∧ k b = .inl c := by
  cases m with
  | inl b => exact ⟨b, rfl, h⟩
  | inr f => cases h
theorem Rn.goS_le {g : Nat → Sx.Tr → Rn.Bf} (hg : ∀ a t b, a ≤ 300 → g a t = .inl b → b ≤ 300) (l : List Sx.Tr) (a b : Nat) (ha : a ≤ 300) (h : Rn.goS g a l = .inl b) : b ≤ 300 := by
  induction l generalizing a with
  | nil => cases h; exact ha
  | cons t r ih =>
    obtain ⟨c, h1, h2⟩ := Rn.thn_le h
    exact ih c (hg a t c ha h1) h2
theorem Rn.bf_le (n : Nat) : ∀ (deep a b : Nat) (l : List Sx.Tr), a ≤ 300 → Rn.bf n deep a l = .inl b → b ≤ 300 := by
  induction n with
  | zero => intro deep a b l ha h; cases h; exact ha
  | succ n ih =>
    intro deep a b l ha h
    rw [Rn.bf_goS] at h
    refine Rn.goS_le ?_ l a b ha h
    intro a t b ha h
    unfold Rn.b1 at h
    split at h
    · cases h
    · split at h
      · cases h
      · obtain ⟨c, h1, h2⟩ := Rn.thn_le h
        exact ih (deep + 1) c b _ (ih (deep + 1) (a + 1) c _ (by omega) h1) h2
end Go.Proofs.YtfngmdebmedkjacGreatDoor


/- The first fault of statements: the document's own reckoning. -/
namespace Go.Proofs.YtfngmdebmedkjacGreatDoor
open Go.RowKit

theorem Rn.goS_ne {g : Nat → Sx.Tr → Rn.Bf} (hg : ∀ a t f, g a t = .inr f → f.1 ≠ 0) (l : List Sx.Tr) (a : Nat) (f : Int × Int) (h : Rn.goS g a l = .inr f) : f.1 ≠ 0 := by
  induction l generalizing a with
  | nil => cases h
  | cons t r ih =>
    have h' : Rn.thn (g a t) (fun b => Rn.goS g b r) = .inr f := h
    cases hx : g a t with
    | inl b => rw [hx] at h'; exact ih b h'
    | inr e => rw [hx] at h'; cases h'; exact hg a t _ hx
theorem Rn.bf_ne (n : Nat) : ∀ (deep a : Nat) (l : List Sx.Tr) (f : Int × Int), Rn.bf n deep a l = .inr f → f.1 ≠ 0 := by
  induction n with
  | zero => intro deep a l f h; cases h
  | succ n ih =>
    intro deep a l f h
    rw [Rn.bf_goS] at h
    refine Rn.goS_ne ?_ l a f h
    intro a t f h
    unfold Rn.b1 at h
    split at h
    · cases h
      show (8 : Int) ≠ 0
      decide
    · split at h
      · rename_i h1; cases h; exact h1
      · cases hx : Rn.bf n (deep + 1) (a + 1) (Sx.sB t) with
        | inl b => rw [hx] at h; exact ih _ _ _ _ h
        | inr e => rw [hx] at h; cases h; exact ih _ _ _ _ hx
def Rn.cv : Rn.Bf → Int × Int
  | .inl _ => (0, 0)
  | .inr f => f
theorem Rn.wS_nth {n : Nat} {l : List Sx.Tr} {i : Nat} {d : Sx.Tr} (h : l[i]? = some d) : Sx.wE n (Sx.sE d) + Sx.wS n (Sx.sB d) + Sx.wS n (Sx.sO d) ≤ Sx.wS (n + 1) l := by
  have := sum_nth (fun d => Sx.wE n (Sx.sE d) + Sx.wS n (Sx.sB d) + Sx.wS n (Sx.sO d)) h
  show _ ≤ l.length + _
  omega

theorem stmtCode_lv (n deep : Nat) (w : World) (hT : Tb w) (P : Nat → Prop) (d at' kk : Int) (A B T : List UInt8) (E b o : List Sx.Tr) (aE aB aL : Option Addr) (cE cB cL : Nat) (hS : EL w P n E (.slice aE E.length cE)) (hW : Sx.wE n E ≤ 1000000000) (hN : ∀ (i : Nat) x, E[i]? = some x → Rn.nmE n x) (lA : A.length ≤ 1099511627776) (lB : B.length ≤ 1099511627776) (lT : T.length ≤ 1099511627776) :
    Calls Tryz.prog 85 #[.agg #[.int .i64 d, .int .i64 at', .string (bs A), .string (bs B), .string (bs T), .int .i64 kk, .slice aE E.length cE, .slice aB b.length cB, .slice aL o.length cL], .int .i64 deep] w fun e w' => e = .returned (.int .i64 (Rn.sf n deep (Sx.tS d at' A B T kk E b o))) ∧ Kp [] w w' := by
  cases n with
  | zero => cases hS
  | succ n => exact stmtCode_any n deep w hT P d at' kk A B T E aE aB aL _ _ cE cB cL b o rfl rfl hS hW hN lA lB lT
end Go.Proofs.YtfngmdebmedkjacGreatDoor


/- The first fault of statements: the document's own reckoning, walked. -/
namespace Go.Proofs.YtfngmdebmedkjacGreatDoor
open Go.RowKit

theorem EL.len_le {w : World} {P : Nat → Prop} {n : Nat} {E : List Sx.Tr} {v : Value} (h : EL w P n E v) : E.length ≤ Sx.wE n E := by
  cases n with
  | zero => cases h
  | succ n => show E.length ≤ E.length + _; omega
/-- The code of a statement itself, with its number. -/
def Rn.c1 (n deep a : Nat) (t : Sx.Tr) : Int := if 300 ≤ a then 8 else Rn.sf n deep t
theorem Rn.b1_bad {n deep a : Nat} {t : Sx.Tr} (h : Rn.c1 n deep a t ≠ 0) : Rn.b1 n deep a t = .inr (Rn.c1 n deep a t, a) := by
  unfold Rn.b1 Rn.c1 at *
  by_cases h3 : 300 ≤ a
  · rw [if_pos h3, if_pos h3]
  · rw [if_neg h3] at h ⊢
    rw [if_neg h3, if_pos h]
theorem Rn.b1_ok {n deep a : Nat} {t : Sx.Tr} (h : Rn.c1 n deep a t = 0) : a < 300 ∧ Rn.b1 n deep a t = Rn.thn (Rn.bf n (deep + 1) (a + 1) (Sx.sB t)) fun b => Rn.bf n (deep + 1) b (Sx.sO t) := by
  unfold Rn.b1 Rn.c1 at *
  by_cases h3 : 300 ≤ a
  · rw [if_pos h3] at h; cases h
  · rw [if_neg h3] at h ⊢
    exact ⟨by omega, by rw [if_neg (by simpa using h)]⟩

end Go.Proofs.YtfngmdebmedkjacGreatDoor

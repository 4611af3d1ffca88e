/- What the tokens of a text are, in plain lists of bytes. -/
import Derived.Lib.Strings
namespace Go.Proofs.YtlipncdfmloijaaDoor.Tk

def isL (b : UInt8) : Bool := decide (97 ≤ b.toNat) && decide (b.toNat ≤ 122)
def isD (b : UInt8) : Bool := decide (48 ≤ b.toNat) && decide (b.toNat ≤ 57)
def isB (b : UInt8) : Bool := b.toNat == 32 || b.toNat == 9 || b.toNat == 10 || b.toNat == 13

/-- How many letters and digits there are ahead. -/
def run : List UInt8 → Nat
  | [] => 0
  | b :: t => if isL b || isD b then run t + 1 else 0
/-- How many blanks, and bytes of remarks. -/
def skip : Bool → List UInt8 → Nat
  | _, [] => 0
  | r, b :: t => if b.toNat = 10 then skip false t + 1 else if b.toNat = 35 then skip true t + 1 else if !r && !isB b then 0 else skip r t + 1

theorem run_le (l : List UInt8) : run l ≤ l.length := by
  induction l with
  | nil => simp [run]
  | cons b t ih => simp only [run]; split <;> simp <;> omega
theorem skip_le (l : List UInt8) (r : Bool) : skip r l ≤ l.length := by
  induction l generalizing r with
  | nil => simp [skip]
  | cons b t ih =>
    simp only [skip]
    have h1 := ih false
    have h2 := ih true
    have h3 := ih r
    repeat' split
    all_goals simp <;> omega

/-- What digits say. -/
def val : Int → List UInt8 → Option Int
  | n, [] => some n
  | n, b :: t => if isD b then val (n * 10 + ((b.toNat : Int) - 48)) t else none
def numOf (l : List UInt8) : Option Int :=
  if 18 < l.length ∨ (1 < l.length ∧ l.head? = some 48) then none else val 0 l

def words : List (List UInt8) := [[97, 98, 97, 110, 100, 111, 110], [99, 104, 97, 110], [99, 108, 111, 110, 101], [99, 108, 111, 115, 101], [100, 114, 97, 105, 110], [101, 108, 115, 101], [101, 109, 105, 116], [102, 111, 114], [102, 114, 111, 109], [105, 102], [105, 110, 116], [108, 101, 116], [114, 101, 99, 118], [114, 101, 112, 101, 97, 116], [115, 101, 110, 100], [115, 101, 116], [115, 112, 97, 119, 110], [115, 116, 97, 103, 101], [116, 97, 107, 101]]
def isW (l : List UInt8) : Bool := words.contains l
def signs : List UInt8 := [40, 41, 123, 125, 44, 59, 43, 45, 42, 60, 61]

/-- A token: its kind, its place, its bytes, its number. -/
structure Tok where
  kind : Int
  at' : Nat
  text : List UInt8
  n : Int

/-- What stands at the front: the fault's code (0: none), and the kind, the length and the number of the token. -/
structure Ans where
  code : Int
  kind : Int
  len : Nat
  n : Int

def numAns (l : List UInt8) : Ans := match numOf l with
  | none => ⟨3, 0, 0, 0⟩
  | some n => ⟨0, 3, l.length, n⟩
def nameAns (l : List UInt8) : Ans := if isW l then ⟨0, 1, l.length, 0⟩ else if 12 < l.length then ⟨4, 0, 0, 0⟩ else ⟨0, 2, l.length, 0⟩
def signAns : List UInt8 → Ans
  | [] => ⟨2, 0, 0, 0⟩
  | 61 :: 61 :: _ => ⟨0, 4, 2, 0⟩
  | b :: _ => if signs.contains b then ⟨0, 4, 1, 0⟩ else ⟨2, 0, 0, 0⟩
def tok (l : List UInt8) : Ans :=
  if 0 < run l then (if isD (l.headD 0) then numAns (l.take (run l)) else nameAns (l.take (run l))) else signAns l

/-- The tokens from a place on at which no blank stands; the fault. -/
def tl : Nat → Nat → List UInt8 → List Tok × Int × Int
  | 0, _, _ => ([], 0, 0)
  | _ + 1, _, [] => ([], 0, 0)
  | f + 1, p, b :: t =>
    let a := tok (b :: t)
    if a.code ≠ 0 then ([], a.code, (p : Int)) else
      let j := a.len + skip false ((b :: t).drop a.len)
      let r := tl f (p + j) ((b :: t).drop j)
      if r.2.1 ≠ 0 then ([], r.2) else (⟨a.kind, p, (b :: t).take a.len, a.n⟩ :: r.1, r.2)
def scan (l : List UInt8) : List Tok × Int × Int :=
  if 12000 < l.length then ([], 1, 12000) else tl (l.length + 1) (skip false l) (l.drop (skip false l))

theorem numAns_len (l : List UInt8) : (numAns l).code = 0 → (numAns l).len = l.length := by
  unfold numAns
  split <;> simp
theorem nameAns_len (l : List UInt8) : (nameAns l).code = 0 → (nameAns l).len = l.length := by
  unfold nameAns
  repeat' split
  all_goals simp
theorem signAns_len (l : List UInt8) : (signAns l).code = 0 → 0 < (signAns l).len ∧ (signAns l).len ≤ l.length := by
  unfold signAns
  split
  · simp
  · simp
  · split <;> simp
theorem tok_len (l : List UInt8) (h : (tok l).code = 0) : 0 < (tok l).len ∧ (tok l).len ≤ l.length := by
  have h1 := run_le l
  unfold tok at h ⊢
  split at h
  · rename_i hr
    rw [if_pos hr]
    split at h
    · rename_i hd
      rw [if_pos hd, numAns_len _ h]
      simp; omega
    · rename_i hd
      rw [if_neg hd, nameAns_len _ h]
      simp; omega
  · rename_i hr
    rw [if_neg hr]
    exact signAns_len l h
theorem tok_at (l : List UInt8) (p : Nat) (f : Nat) (hl : l ≠ []) (hc : (tok l).code = 0) : tl (f + 1) p l = (let j := (tok l).len + skip false (l.drop (tok l).len)
      let r := tl f (p + j) (l.drop j)
      if r.2.1 ≠ 0 then ([], r.2) else (⟨(tok l).kind, p, l.take (tok l).len, (tok l).n⟩ :: r.1, r.2)) := by
  cases l with
  | nil => exact absurd rfl hl
  | cons b t => simp only [tl]; rw [if_neg (by simpa using hc)]
theorem tok_bad (l : List UInt8) (p : Nat) (f : Nat) (hl : l ≠ []) (hc : (tok l).code ≠ 0) : tl (f + 1) p l = ([], (tok l).code, (p : Int)) := by
  cases l with
  | nil => exact absurd rfl hl
  | cons b t => simp only [tl]; rw [if_pos hc]
theorem tl_nil (f p : Nat) : tl f p [] = ([], 0, 0) := by cases f <;> rfl

/-- What went before, and what comes. -/
def comb (a : List Tok) (r : List Tok × Int × Int) : List Tok × Int × Int := if r.2.1 ≠ 0 then ([], r.2) else (a ++ r.1, r.2)
theorem tl_nofault (f p : Nat) (l : List UInt8) : (tl f p l).2.1 ≠ 0 → (tl f p l).1 = [] := by
  induction f generalizing p l with
  | zero => simp [tl]
  | succ f ih =>
    cases l with
    | nil => simp [tl]
    | cons b t =>
      simp only [tl]
      split
      · simp
      · split
        · simp
        · rename_i h; intro h2; exact absurd h2 h
theorem comb_nil (r : List Tok × Int × Int) (h : r.2.1 ≠ 0 → r.1 = []) : comb [] r = r := by
  unfold comb
  split
  · rename_i h1; rw [← h h1]
  · simp
theorem comb_step (acc : List Tok) (l : List UInt8) (p f : Nat) (hl : l ≠ []) (hc : (tok l).code = 0) :
    comb acc (tl (f + 1) p l) = comb (acc ++ [⟨(tok l).kind, p, l.take (tok l).len, (tok l).n⟩]) (tl f (p + ((tok l).len + skip false (l.drop (tok l).len))) (l.drop ((tok l).len + skip false (l.drop (tok l).len)))) := by
  rw [tok_at l p f hl hc]
  dsimp only
  generalize tl f (p + ((tok l).len + skip false (l.drop (tok l).len))) (l.drop ((tok l).len + skip false (l.drop (tok l).len))) = r
  by_cases h : r.2.1 = 0
  · simp [comb, h]
  · simp [comb, h]
end Go.Proofs.YtlipncdfmloijaaDoor.Tk

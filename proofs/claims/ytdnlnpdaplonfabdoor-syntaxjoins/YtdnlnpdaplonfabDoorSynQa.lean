import Derived.Test.YtdnlnpdaplonfabDoorPlA
/- Programs as trees: how many statements, how much they weigh, when two are the same. -/
namespace Go.Proofs.YtdnlnpdaplonfabDoor.Sx
open Go.Proofs.YtdnlnpdaplonfabDoor.Tk

def eL : Tr → List Tr
  | .agg [_, _, _, .agg L] => L
  | _ => []
def eH : Tr → Int × List UInt8 × Int
  | .agg [.lit (.int _ op), .lit (.string nm), .lit (.int _ k), _] => (op, nm, k)
  | _ => (0, [], 0)
def sH : Tr → Int × List UInt8 × List UInt8 × List UInt8 × Int
  | .agg [.lit (.int _ d), _, .lit (.string A), .lit (.string B), .lit (.string T), .lit (.int _ n), _, _, _] => (d, A, B, T, n)
  | _ => (0, [], [], [], 0)
def sE : Tr → List Tr
  | .agg [_, _, _, _, _, _, .agg E, _, _] => E
  | _ => []
def sB : Tr → List Tr
  | .agg [_, _, _, _, _, _, _, .agg b, _] => b
  | _ => []
def sO : Tr → List Tr
  | .agg [_, _, _, _, _, _, _, _, .agg o] => o
  | _ => []
def gN : Tr → List UInt8
  | .agg [.lit (.string nm), _, _, _] => nm
  | _ => []
def gP : Tr → List Tr
  | .agg [_, _, .agg ps, _] => ps
  | _ => []
def gB : Tr → List Tr
  | .agg [_, _, _, .agg b] => b
  | _ => []
def pH : Tr → List UInt8 × List UInt8
  | .agg [.lit (.string nm), .lit (.string T)] => (nm, T)
  | _ => ([], [])

def sum (f : Tr → Nat) : List Tr → Nat
  | [] => 0
  | d :: r => f d + sum f r
theorem sum_take (f : Tr → Nat) (l : List Tr) (i : Nat) (d : Tr) (h : l[i]? = some d) : sum f (l.take (i + 1)) = sum f (l.take i) + f d := by
  induction l generalizing i with
  | nil => simp at h
  | cons x r ih =>
    cases i with
    | zero => simp at h; subst h; simp [sum]
    | succ i =>
      have := ih i (by simpa using h)
      simp only [List.take_succ_cons, sum]
      rw [this]
      omega
theorem sum_take_le (f : Tr → Nat) (l : List Tr) (i : Nat) : sum f (l.take i) ≤ sum f l := by
  induction l generalizing i with
  | nil => simp
  | cons x r ih =>
    cases i with
    | zero => simp [sum]
    | succ i => have := ih i; simp only [List.take_succ_cons, sum]; omega
theorem sum_mono (f g : Tr → Nat) (h : ∀ d, f d ≤ g d) (l : List Tr) : sum f l ≤ sum g l := by
  induction l with
  | nil => exact Nat.le_refl _
  | cons x r ih => simp only [sum]; have := h x; omega

/-- How many statements. -/
def cnt : Nat → List Tr → Nat
  | 0, _ => 0
  | n + 1, l => l.length + sum (fun d => cnt n (sB d) + cnt n (sO d)) l
def cntG (n : Nat) (l : List Tr) : Nat := sum (fun d => cnt n (gB d)) l
/-- How much they weigh. -/
def wE : Nat → List Tr → Nat
  | 0, _ => 0
  | n + 1, l => l.length + sum (fun d => wE n (eL d)) l
def wS : Nat → List Tr → Nat
  | 0, _ => 0
  | n + 1, l => l.length + sum (fun d => wE n (sE d) + wS n (sB d) + wS n (sO d)) l
def wG (n : Nat) (l : List Tr) : Nat := sum (fun d => wS n (gB d)) l
theorem cnt_le (n : Nat) (l : List Tr) : cnt n l ≤ wS n l := by
  induction n generalizing l with
  | zero => exact Nat.le_refl _
  | succ n ih =>
    have := sum_mono (fun d => cnt n (sB d) + cnt n (sO d)) (fun d => wE n (sE d) + wS n (sB d) + wS n (sO d)) (fun d => by have h1 := ih (sB d); have h2 := ih (sO d); show _ ≤ _; omega) l
    simp only [cnt, wS]
    omega
theorem cntG_le (n : Nat) (l : List Tr) : cntG n l ≤ wG n l := sum_mono _ _ (fun d => cnt_le n (gB d)) l

def all2 (p : Tr → Tr → Bool) : List Tr → List Tr → Bool
  | [], [] => true
  | a :: l, b :: m => p a b && all2 p l m
  | _, _ => false
theorem all2_len {p : Tr → Tr → Bool} {l m : List Tr} (h : l.length ≠ m.length) : all2 p l m = false := by
  induction l generalizing m with
  | nil => cases m with
    | nil => simp at h
    | cons b m => rfl
  | cons a l ih => cases m with
    | nil => rfl
    | cons b m => simp only [all2, ih (m := m) (by simpa using h), Bool.and_false]
theorem all2_drop {p : Tr → Tr → Bool} {l m : List Tr} {i : Nat} {a b : Tr} (ha : l[i]? = some a) (hb : m[i]? = some b) : all2 p (l.drop i) (m.drop i) = (p a b && all2 p (l.drop (i + 1)) (m.drop (i + 1))) := by
  induction l generalizing m i with
  | nil => simp at ha
  | cons x l ih => cases m with
    | nil => simp at hb
    | cons y m => cases i with
      | zero => simp at ha hb; subst ha hb; simp [all2]
      | succ i => simpa using ih (m := m) (i := i) (by simpa using ha) (by simpa using hb)
theorem all2_refl {p : Tr → Tr → Bool} (h : ∀ d, p d d = true) (l : List Tr) : all2 p l l = true := by
  induction l with
  | nil => rfl
  | cons a l ih => simp [all2, h a, ih]
def sameE : Nat → List Tr → List Tr → Bool
  | 0, _, _ => true
  | n + 1, l, m => all2 (fun a b => eH a == eH b && sameE n (eL a) (eL b)) l m
def sameS : Nat → List Tr → List Tr → Bool
  | 0, _, _ => true
  | n + 1, l, m => all2 (fun a b => sH a == sH b && sameE n (sE a) (sE b) && sameS n (sB a) (sB b) && sameS n (sO a) (sO b)) l m
def sameP (l m : List Tr) : Bool := all2 (fun a b => pH a == pH b) l m
def sameG (n : Nat) (l m : List Tr) : Bool := all2 (fun a b => gN a == gN b && sameP (gP a) (gP b) && sameS n (gB a) (gB b)) l m
theorem sameE_refl (n : Nat) (l : List Tr) : sameE n l l = true := by
  induction n generalizing l with
  | zero => rfl
  | succ n ih => exact all2_refl (fun d => by simp [ih]) l
theorem sameS_refl (n : Nat) (l : List Tr) : sameS n l l = true := by
  induction n generalizing l with
  | zero => rfl
  | succ n ih => exact all2_refl (fun d => by simp [ih, sameE_refl]) l
theorem sameG_refl (n : Nat) (l : List Tr) : sameG n l l = true := all2_refl (fun d => by simp [sameS_refl, sameP, all2_refl]) l
end Go.Proofs.YtdnlnpdaplonfabDoor.Sx

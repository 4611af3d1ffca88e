import Derived.Test.YtfngmdebmedkjaePthM
import Derived.Deep.RegionHeld3
/- How far it is to one, by going over all again and again: the document's own reckoning. -/
namespace Go.Proofs.Ytfngmdebmedkjae
open Go.RowKit

/-- A row's numbers, read. -/
def rdI (w : World) (g k : Nat) : Int := match w.cell? ⟨g, k, none⟩ with
  | some (.int _ x) => x
  | _ => 0
def msr (w : World) (g n : Nat) : Nat := Pa.tot ((List.range n).map (rdI w g))
theorem msr_is {g : Nat} {w : World} {D : List Int} (h : AR g w D) : msr w g D.length = Pa.tot D := by
  unfold msr
  congr 1
  apply List.ext_getElem?
  intro k
  by_cases hk : k < D.length
  · have h1 := h.cell k _ (List.getElem?_eq_getElem hk)
    rw [List.getElem?_map, List.getElem?_range hk, List.getElem?_eq_getElem hk]
    simp [rdI, h1]
  · rw [List.getElem?_eq_none (by simp; omega), List.getElem?_eq_none (by omega)]
def bo : Value → Nat
  | .bool true => 1
  | _ => 0
theorem on_two {p : Pa.Pr} {i v : Nat} {x : Int × Int} (hx : p[i]? = some x) (h : v ∈ nxp p i) : (v : Int) = (i : Int) + 1 ∨ (v : Int) = x.2 := by
  have h1 := Pa.mem_on.1 h
  unfold Pa.comes at h1
  simp only [Bool.and_eq_true, Int.toNat_natCast, hx, Option.getD_some] at h1
  have h2 := (Pa.cx_iff x i v).1 h1.2
  unfold Pa.lo Pa.hi at h2
  split at h2
  · omega
  · split at h2 <;> omega
/-- Nothing gets nearer, up to some instruction. -/
def ShutTo (p : Pa.Pr) (D : List Int) (i : Nat) : Prop := ∀ (j k : Nat) x y, j < i → D[j]? = some x → k ∈ nxp p j → D[k]? = some y → x ≤ y + 1
theorem shut_all {p : Pa.Pr} {D : List Int} (h : ShutTo p D p.length) : Pa.Shut (nxp p) D := fun i k x y hx hk hy => h i k x y (by have := Pa.on_in hk; omega) hx hk hy
/-- Nor of one, to some of those that may come of it. -/
def Shut1 (p : Pa.Pr) (D : List Int) (i : Nat) (v : Int) : Prop := ∀ (k : Nat) x y, (k : Int) = v → D[i]? = some x → k ∈ nxp p i → D[k]? = some y → x ≤ y + 1
theorem shut_next {p : Pa.Pr} {D : List Int} {i : Nat} {x : Int × Int} (hx : p[i]? = some x) (h : ShutTo p D i) (h1 : Shut1 p D i ((i : Int) + 1)) (h2 : Shut1 p D i x.2) : ShutTo p D (i + 1) := by
  intro j k a b hj ha hk hb
  by_cases e : j = i
  · subst e
    rcases on_two hx hk with h3 | h3
    · exact h1 k a b h3 ha hk hb
    · exact h2 k a b h3 ha hk hb
  · exact h j k a b (by omega) ha hk hb
/-- How a pass stands: m tells whether something got nearer. -/
structure PS (p : Pa.Pr) (to : Int) (D0 D : List Int) (m : Bool) (i : Nat) : Prop where
  aw : Pa.Aw (nxp p) p.length to D
  le : Pa.tot D ≤ Pa.tot D0
  lt : m = true → Pa.tot D < Pa.tot D0
  eq : m = false → D = D0 ∧ ShutTo p D0 i
theorem PS.nearer {p : Pa.Pr} {to : Int} {D0 D : List Int} {m : Bool} {i : Nat} (h : PS p to D0 D m i) {v : Nat} {x y : Int} (hv : v ∈ nxp p i) (hx : D[i]? = some x) (hy : D[v]? = some y) (hlt : y + 1 < x) : PS p to D0 (D.set i (y + 1)) true i := by
  have h1 := h.aw.lower hx hv hy hlt
  have h2 := Pa.tot_set D i x (y + 1) hx (by have := h.aw.pos v y hy; omega) hlt
  have := h.le
  exact ⟨h1, by omega, fun _ => by omega, fun e => by cases e⟩

def fif (n k : Nat) : List Int := List.replicate k 1073741824 ++ List.replicate (n - k) 0
theorem fif_get {n k : Nat} (h : k < n) : (fif n k)[k]? = some 0 := by
  unfold fif
  rw [List.getElem?_append_right (by simp), List.getElem?_replicate, if_pos (by simp; omega)]
theorem fif_set {n k : Nat} (h : k < n) : (fif n k).set k 1073741824 = fif n (k + 1) := by
  apply List.ext_getElem?
  intro j
  unfold fif
  by_cases hj : j = k
  · subst hj
    rw [List.getElem?_set_self (by simp; omega), List.getElem?_append_left (by simp)]
    simp
  · rw [List.getElem?_set_ne (by omega)]
    by_cases hlt : j < k
    · rw [List.getElem?_append_left (by simpa using hlt), List.getElem?_append_left (by simp; omega)]
      simp [List.getElem?_replicate, hlt]
      omega
    · rw [List.getElem?_append_right (by simp; omega), List.getElem?_append_right (by simp; omega)]
      simp only [List.length_replicate, List.getElem?_replicate]
      have : (j - k < n - k) ↔ (j - (k + 1) < n - (k + 1)) := by omega
      simp [this]
theorem fif_all (n : Nat) : fif n n = List.replicate n Pa.far := by simp [fif, Pa.far]
end Go.Proofs.Ytfngmdebmedkjae

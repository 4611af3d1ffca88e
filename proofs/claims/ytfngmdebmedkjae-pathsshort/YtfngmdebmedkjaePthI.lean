import Derived.Test.YtfngmdebmedkjaePthH
/- The search, whole. -/
namespace Go.Proofs.Ytfngmdebmedkjae
open Go.RowKit

def nxp (p : Pa.Pr) (u : Nat) : List Nat := Pa.on p (u : Int)
/-- What the search tells. -/
def SPR (p : Pa.Pr) (i : Int) (ah : List Int) : Prop :=
  ah.length = p.length ∧ (Pa.isI p i = false → ∀ (k : Nat) x, ah[k]? = some x → x = -1) ∧ ∀ a : Nat, i = (a : Int) → a < p.length → ∃ ln g, Pa.Inv (nxp p) p.length a ah ln ln.length [] g
theorem made_get (n k : Nat) (h : k < n) : (madeCells #[Value.int .i64 0] n)[k]? = some (.int .i64 0) := by
  unfold madeCells
  rw [Array.getElem?_map]
  simp [h, Nat.mod_one]
theorem make_ints (n : Nat) (hn : n ≤ 300) : ∃ Z : Array Value, (∀ k, k < n → Z[k]? = some (.int .i64 0)) ∧ ∀ w : World, (Instr.makeSlice 30 (.int .i64 (n : Int)) (.int .i64 (n : Int))).run Try.prog w = .ok (.slice (some ⟨w.heap.size, 0, none⟩) n n) (w.alloc (.cells Z 3)) := by
  obtain ⟨i0, hi, hz0, hz1, hz2⟩ := info_parts Try.info3
  refine ⟨madeCells #[Value.int .i64 0] n, made_get n, fun w => ?_⟩
  have := run_make (P := Try.prog) w 30 3 i0 (.int .i64 0) Try.underlying30 hi hz0 .i64 .i64 (n : Int) (n : Int) (by omega) (Int.le_refl _) (by rw [hz2]; omega) (by omega)
  rw [hz1] at this
  simpa [Value.cells] using this
theorem ar_new (w : World) (Z : Array Value) (n : Nat) (hZ : ∀ k, k < n → Z[k]? = some (.int .i64 0)) : AR w.heap.size (w.alloc (.cells Z 3)) (List.replicate n 0) := by
  refine ⟨fun k x hx => ?_, fun k => by simp [go_sem], by simp⟩
  rw [List.getElem?_replicate] at hx
  split at hx
  · rename_i hk
    cases hx
    have := hZ k hk
    simp [go_sem, this]
  · cases hx
def fil (n k : Nat) : List Int := List.replicate k (-1) ++ List.replicate (n - k) 0
theorem fil_get {n k : Nat} (h : k < n) : (fil n k)[k]? = some 0 := by
  unfold fil
  rw [List.getElem?_append_right (by simp), List.getElem?_replicate, if_pos (by simp; omega)]
theorem fil_set {n k : Nat} (h : k < n) : (fil n k).set k (-1) = fil n (k + 1) := by
  apply List.ext_getElem?
  intro j
  unfold fil
  by_cases hj : j = k
  · subst hj
    rw [List.getElem?_set_self (by simp; omega), List.getElem?_append_left (by simp)]
    simp
  · rw [List.getElem?_set_ne (by omega)]
    by_cases hlt : j < k
    · rw [List.getElem?_append_left (by simpa using hlt), List.getElem?_append_left (by simp; omega)]
      simp [List.getElem?_replicate, hlt]
      omega
    · rw [List.getElem?_append_right (by simp; omega), List.getElem?_append_right (by simp; omega)]
      simp only [List.length_replicate, List.getElem?_replicate]
      have : (j - k < n - k) ↔ (j - (k + 1) < n - (k + 1)) := by omega
      simp [this]
theorem fil_all (n : Nat) : fil n n = List.replicate n (-1) := by simp [fil]
end Go.Proofs.Ytfngmdebmedkjae

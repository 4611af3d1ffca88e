import Derived.Test.YtfngmdebmedkjacGreatDoorRenLa
import Derived.Test.YtfngmdebmedkjacGreatDoorRxS
import Derived.Test.YtfngmdebmedkjacGreatDoorRyA
import Derived.Test.YtfngmdebmedkjacGreatDoorRxD
import Derived.Test.YtfngmdebmedkjacGreatDoorSnM
import Derived.Test.YtfngmdebmedkjacGreatDoorRzB
/- What is printed is parsed as it was; levels of memory. -/
namespace Go.Proofs.YtfngmdebmedkjacGreatDoor
open Go.RowKit

theorem GL.kept {w w' : World} {P : Nat → Prop} {n : Nat} {l : List Sx.Tr} {v : Value} (h : Sl (RG w P n) w P l v) (hk : Kp [] w w') : Sl (RG w' P n) w' P l v := h.keep hk (by simp) (fun d c h => h.keep hk (by simp))
theorem GL.raise {w : World} {P : Nat → Prop} {n : Nat} {l : List Sx.Tr} {v : Value} (h : Sl (RG w P n) w P l v) {m : Nat} (hm : n ≤ m) : Sl (RG w P m) w P l v := by
  obtain ⟨k, rfl⟩ : ∃ k, m = n + k := ⟨m - n, by omega⟩
  exact h.mono' (fun d c _ hd => hd.more k)
theorem Rw.mem {R : Sx.Tr → List Value → Prop} {l : List Sx.Tr} {cs : List Value} (h : Rw R l cs) : ∀ d, d ∈ l → ∃ c, R d c := by
  induction l generalizing cs with
  | nil => intro d hd; cases hd
  | cons x r ih =>
    obtain ⟨c1, c2, h1, h2, h3⟩ := h
    intro d hd
    rcases List.mem_cons.1 hd with rfl | hd
    · exact ⟨_, h2⟩
    · exact ih h3 d hd
theorem Sl.mem {R : Sx.Tr → List Value → Prop} {w : World} {P : Nat → Prop} {l : List Sx.Tr} {v : Value} (h : Sl R w P l v) : ∀ d, d ∈ l → ∃ c, R d c := by
  obtain ⟨a, cap, hv, h⟩ := h
  rcases h with rfl | ⟨b, off, cs, ha, hb, hr, hc⟩
  · intro d hd; cases hd
  · exact hr.mem
theorem EL.wE_up {w : World} {P : Nat → Prop} {n : Nat} {L : List Sx.Tr} {v : Value} (h : EL w P n L v) : Sx.wE (n + 1) L = Sx.wE n L := by
  obtain ⟨a, c, rfl⟩ := h.slice
  exact h.wE
theorem SL.wS_up {w : World} {P : Nat → Prop} {n : Nat} : ∀ {l : List Sx.Tr} {v : Value}, SL w P n l v → Sx.wS (n + 1) l = Sx.wS n l := by
  induction n with
  | zero => intro l v h; cases h
  | succ n ih =>
    intro l v h
    rw [SL_succ] at h
    show l.length + Sx.sum (fun d => Sx.wE (n + 1) (Sx.sE d) + Sx.wS (n + 1) (Sx.sB d) + Sx.wS (n + 1) (Sx.sO d)) l = l.length + Sx.sum (fun d => Sx.wE n (Sx.sE d) + Sx.wS n (Sx.sB d) + Sx.wS n (Sx.sO d)) l
    rw [sum_congr (fun d => Sx.wE (n + 1) (Sx.sE d) + Sx.wS (n + 1) (Sx.sB d) + Sx.wS (n + 1) (Sx.sO d)) (fun d => Sx.wE n (Sx.sE d) + Sx.wS n (Sx.sB d) + Sx.wS n (Sx.sO d)) (l := l)]
    intro i d hd
    obtain ⟨c, D, at', A, B, T, k, E, body, els, uE, uB, uL, rfl, -, h3, h4, h5⟩ := h.mem d (List.mem_of_getElem? hd)
    show Sx.wE (n + 1) E + Sx.wS (n + 1) body + Sx.wS (n + 1) els = Sx.wE n E + Sx.wS n body + Sx.wS n els
    rw [h3.wE_up, ih h4, ih h5]
theorem SL.wS_more {w : World} {P : Nat → Prop} {n : Nat} {l : List Sx.Tr} {v : Value} (h : SL w P n l v) (k : Nat) : Sx.wS (n + k) l = Sx.wS n l := by
  induction k with
  | zero => rfl
  | succ k ih => rw [← Nat.add_assoc, (h.more k).wS_up, ih]
theorem Sm.raise {w : World} {P : Nat → Prop} {n : Nat} {l : List Sx.Tr} {v : Value} (hs : Sm n l) (h : Sl (RG w P n) w P l v) {m : Nat} (hm : n ≤ m) : Sm m l := by
  obtain ⟨k, rfl⟩ : ∃ k, m = n + k := ⟨m - n, by omega⟩
  refine ⟨hs.len, hs.ps, ?_⟩
  have e : Sx.wG (n + k) l = Sx.wG n l := by
    show Sx.sum (fun d => Sx.wS (n + k) (Sx.gB d)) l = Sx.sum (fun d => Sx.wS n (Sx.gB d)) l
    rw [sum_congr (fun d => Sx.wS (n + k) (Sx.gB d)) (fun d => Sx.wS n (Sx.gB d)) (l := l)]
    intro i d hd
    obtain ⟨c, nm, at', ps, body, uP, uB, rfl, -, -, h4⟩ := h.mem d (List.mem_of_getElem? hd)
    exact h4.wS_more k
  rw [e]
  exact hs.w

theorem parsed_back (n : Nat) (hn : 30 ≤ n) (l : List Sx.Tr) (h : (Rn.told n l).1 = 0) : (Rn.pt n l).length ≤ 12000 ∧ ∃ l' s', Sx.parsed (Rn.pt n l) = .inl (l', s', []) ∧ ∀ m, Sx.sameG m l l' = true := by
  have h12 : (Rn.pf n l).1 = 0 ∧ (Rn.pt n l).length ≤ 12000 := by
    unfold Rn.told at h
    by_cases h1 : (Rn.pf n l).1 ≠ 0
    · rw [if_pos h1] at h; exact absurd h h1
    rw [if_neg h1] at h
    by_cases h2 : 12000 < (Rn.pt n l).length
    · rw [if_pos h2] at h; simp at h
    exact ⟨by simpa using h1, by omega⟩
  have hc := Tk.scan_count (Rn.pt n l)
  obtain ⟨q0, l', s', q1, q2⟩ := Rb.text_back n 72001 12001 hn (by omega) l h12.1 h12.2 (Sx.prog_wet _ _ _ _ (by omega) (by omega))
  refine ⟨h12.2, l', s', ?_, q2⟩
  unfold Sx.parsed Sx.parse
  rw [if_neg (by simpa using q0)]
  exact q1

end Go.Proofs.YtfngmdebmedkjacGreatDoor

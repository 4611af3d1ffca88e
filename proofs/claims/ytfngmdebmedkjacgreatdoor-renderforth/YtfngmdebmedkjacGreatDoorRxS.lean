import Derived.Test.YtfngmdebmedkjacGreatDoorRxD
import Derived.Test.YtfngmdebmedkjacGreatDoorRxR
import Derived.Test.YtfngmdebmedkjacGreatDoorRxF
/- What is too great. -/
namespace Go.Proofs.YtfngmdebmedkjacGreatDoor
open Go.RowKit

theorem bs_hun {l : List UInt8} (h : ¬ 100 < (bs l).size) : l.length ≤ 1099511627776 := by
  rw [bsz] at h
  omega
end Go.Proofs.YtfngmdebmedkjacGreatDoor


/- What is too great: programs. -/
namespace Go.Proofs.YtfngmdebmedkjacGreatDoor
open Go.RowKit

/-- What a stage's texts are no longer than. -/
def Gnm (n : Nat) (d : Sx.Tr) : Prop := (Sx.gN d).length ≤ 1099511627776 ∧ Rn.nmP (Sx.gP d) ∧ Rn.nmS n (Sx.gB d)
def GPn (n : Nat) (l : List Sx.Tr) (w : World) (e : Ending) (w' : World) : Prop := ∃ g, e = .returned (.bool g) ∧ (g = false → Sm n l ∧ ∀ (i : Nat) d, l[i]? = some d → Gnm n d) ∧ Kp [] w w'

end Go.Proofs.YtfngmdebmedkjacGreatDoor


/- Trees that are not great lie at a low level, too. -/
namespace Go.Proofs.YtfngmdebmedkjacGreatDoor
open Go.RowKit

theorem Rw.mono' {R R' : Sx.Tr → List Value → Prop} {l : List Sx.Tr} {cs : List Value} (h : Rw R l cs) (hR : ∀ d c, d ∈ l → R d c → R' d c) : Rw R' l cs := by
  induction l generalizing cs with
  | nil => exact h
  | cons d r ih =>
    obtain ⟨c1, c2, h1, h2, h3⟩ := h
    exact ⟨c1, c2, h1, hR _ _ (by simp) h2, ih h3 (fun d c hd => hR d c (by simp [hd]))⟩
theorem Sl.mono' {R R' : Sx.Tr → List Value → Prop} {w : World} {P : Nat → Prop} {l : List Sx.Tr} {v : Value} (h : Sl R w P l v) (hR : ∀ d c, d ∈ l → R d c → R' d c) : Sl R' w P l v := by
  obtain ⟨a, cap, hv, h⟩ := h
  refine ⟨a, cap, hv, h.imp id ?_⟩
  rintro ⟨b, off, cs, ha, hb, hr, hc⟩
  exact ⟨b, off, cs, ha, hb, hr.mono' hR, hc⟩
theorem Rn.sum_mem {f : Sx.Tr → Nat} {l : List Sx.Tr} {d : Sx.Tr} (h : d ∈ l) : f d + 1 ≤ l.length + Sx.sum f l := by
  induction l with
  | nil => cases h
  | cons a r ih =>
    simp only [Sx.sum, List.length_cons]
    rcases List.mem_cons.1 h with rfl | h
    · omega
    · have := ih h; omega
theorem EL.lower (N : Nat) : ∀ {w : World} {P : Nat → Prop} {l : List Sx.Tr} {v : Value} (m : Nat), EL w P N l v → Sx.wE N l < m → EL w P m l v := by
  induction N with
  | zero => intro w P l v m h; cases h
  | succ N ih =>
    intro w P l v m h hm
    obtain ⟨m', rfl⟩ : ∃ m', m = m' + 1 := ⟨m - 1, by omega⟩
    obtain ⟨a, cap, hv, h⟩ := h
    refine ⟨a, cap, hv, h.imp id ?_⟩
    rintro ⟨b, off, ha, hb, hc⟩
    refine ⟨b, off, ha, hb, fun i d hd => ?_⟩
    obtain ⟨op, nm, k, L, u, h1, h2, h3, h4, h5, h6⟩ := hc i d hd
    refine ⟨op, nm, k, L, u, h1, h2, h3, h4, h5, ih m' h6 ?_⟩
    have e : Sx.wE (N + 1) l = l.length + Sx.sum (fun d => Sx.wE N (Sx.eL d)) l := rfl
    have := Rn.sum_mem (f := fun d => Sx.wE N (Sx.eL d)) (List.mem_of_getElem? hd)
    rw [h1] at this
    have this' : Sx.wE N L + 1 ≤ l.length + Sx.sum (fun d => Sx.wE N (Sx.eL d)) l := this
    omega
theorem SL.lower (N : Nat) : ∀ {w : World} {P : Nat → Prop} {l : List Sx.Tr} {v : Value} (m : Nat), SL w P N l v → Sx.wS N l < m → SL w P m l v := by
  induction N with
  | zero => intro w P l v m h; cases h
  | succ N ih =>
    intro w P l v m h hm
    obtain ⟨m', rfl⟩ : ∃ m', m = m' + 1 := ⟨m - 1, by omega⟩
    rw [SL_succ] at h ⊢
    refine h.mono' ?_
    rintro d c hd ⟨D, at', A, B, T, k, E, body, els, uE, uB, uL, h1, h2, h3, h4, h5⟩
    have e : Sx.wS (N + 1) l = l.length + Sx.sum (fun d => Sx.wE N (Sx.sE d) + Sx.wS N (Sx.sB d) + Sx.wS N (Sx.sO d)) l := rfl
    have := Rn.sum_mem (f := fun d => Sx.wE N (Sx.sE d) + Sx.wS N (Sx.sB d) + Sx.wS N (Sx.sO d)) hd
    rw [h1] at this
    have this' : Sx.wE N E + Sx.wS N body + Sx.wS N els + 1 ≤ l.length + Sx.sum (fun d => Sx.wE N (Sx.sE d) + Sx.wS N (Sx.sB d) + Sx.wS N (Sx.sO d)) l := this
    exact ⟨D, at', A, B, T, k, E, body, els, uE, uB, uL, h1, h2, h3.lower N m' (by omega), ih m' h4 (by omega), ih m' h5 (by omega)⟩
theorem Rn.sum_le {f g : Sx.Tr → Nat} (h : ∀ d, f d ≤ g d) (l : List Sx.Tr) : Sx.sum f l ≤ Sx.sum g l := by
  induction l with
  | nil => exact Nat.le_refl _
  | cons a r ih => simp only [Sx.sum]; have := h a; omega
theorem Rn.wE_le (m : Nat) : ∀ (N : Nat) (l : List Sx.Tr), m ≤ N → Sx.wE m l ≤ Sx.wE N l := by
  induction m with
  | zero => intro N l _; simp [Sx.wE]
  | succ m ih =>
    intro N l h
    obtain ⟨N', rfl⟩ : ∃ N', N = N' + 1 := ⟨N - 1, by omega⟩
    have := Rn.sum_le (f := fun d => Sx.wE m (Sx.eL d)) (g := fun d => Sx.wE N' (Sx.eL d)) (fun d => ih N' _ (by omega)) l
    show l.length + _ ≤ l.length + _
    omega
theorem Rn.wS_le (m : Nat) : ∀ (N : Nat) (l : List Sx.Tr), m ≤ N → Sx.wS m l ≤ Sx.wS N l := by
  induction m with
  | zero => intro N l _; simp [Sx.wS]
  | succ m ih =>
    intro N l h
    obtain ⟨N', rfl⟩ : ∃ N', N = N' + 1 := ⟨N - 1, by omega⟩
    have := Rn.sum_le (f := fun d => Sx.wE m (Sx.sE d) + Sx.wS m (Sx.sB d) + Sx.wS m (Sx.sO d)) (g := fun d => Sx.wE N' (Sx.sE d) + Sx.wS N' (Sx.sB d) + Sx.wS N' (Sx.sO d)) (fun d => by
      have h1 := Rn.wE_le m N' (Sx.sE d) (by omega)
      have h2 := ih N' (Sx.sB d) (by omega)
      have h3 := ih N' (Sx.sO d) (by omega)
      omega) l
    show l.length + _ ≤ l.length + _
    omega
theorem Rn.nmE_le (m : Nat) : ∀ (N : Nat) (d : Sx.Tr), m ≤ N → Rn.nmE N d → Rn.nmE m d := by
  induction m with
  | zero => intro N d _ _; exact trivial
  | succ m ih =>
    intro N d h hn
    obtain ⟨N', rfl⟩ : ∃ N', N = N' + 1 := ⟨N - 1, by omega⟩
    exact ⟨hn.1, fun i x hx => ih N' x (by omega) (hn.2 i x hx)⟩
theorem Rn.nmS_le (m : Nat) : ∀ (N : Nat) (l : List Sx.Tr), m ≤ N → Rn.nmS N l → Rn.nmS m l := by
  induction m with
  | zero => intro N l _ _; exact trivial
  | succ m ih =>
    intro N l h hn
    obtain ⟨N', rfl⟩ : ∃ N', N = N' + 1 := ⟨N - 1, by omega⟩
    intro i t ht
    obtain ⟨h1, h2, h3, h4, h5, h6⟩ := hn i t ht
    exact ⟨h1, h2, h3, fun j x hx => Rn.nmE_le m N' x (by omega) (h4 j x hx), ih N' _ (by omega) h5, ih N' _ (by omega) h6⟩
/-- Of a program that is not too great: a level that is low enough. -/
theorem lower_GL {N : Nat} {l : List Sx.Tr} (hs : Sm N l) (hg : ∀ (i : Nat) d, l[i]? = some d → Gnm N d) :
    Nm (min N 1000002) l ∧ ∀ (w' : World) (P' : Nat → Prop) (v' : Value), Sl (RG w' P' N) w' P' l v' → Sl (RG w' P' (min N 1000002)) w' P' l v' := by
  have hw : ∀ (i : Nat) d, l[i]? = some d → Sx.wS N (Sx.gB d) ≤ 1000000 := fun i d hd => by
    have := sum_nth (fun d => Sx.wS N (Sx.gB d)) hd
    have e : Sx.wG N l = Sx.sum (fun d => Sx.wS N (Sx.gB d)) l := rfl
    have := hs.w
    omega
  refine ⟨⟨Nat.min_le_right _ _, hs.len, hs.ps, fun i d hd => ?_, fun i d hd => ?_⟩, ?_⟩
  · exact Nat.le_trans (Rn.wS_le _ N _ (Nat.min_le_left _ _)) (hw i d hd)
  · obtain ⟨g1, g2, g3⟩ := hg i d hd
    exact ⟨g1, g2, Rn.nmS_le _ N _ (Nat.min_le_left _ _) g3⟩
  · intro w' P' v' h'
    by_cases hN : N ≤ 1000002
    · rw [Nat.min_eq_left hN]; exact h'
    · rw [Nat.min_eq_right (by omega)]
      refine h'.mono' ?_
      rintro d c hd ⟨nm, at', ps, body, uP, uB, h1, h2, h3, h4⟩
      obtain ⟨i, hi⟩ := List.getElem?_of_mem hd
      have := hw i d hi
      rw [h1] at this
      have this' : Sx.wS N body ≤ 1000000 := this
      exact ⟨nm, at', ps, body, uP, uB, h1, h2, h3, h4.lower N 1000002 (by omega)⟩
end Go.Proofs.YtfngmdebmedkjacGreatDoor

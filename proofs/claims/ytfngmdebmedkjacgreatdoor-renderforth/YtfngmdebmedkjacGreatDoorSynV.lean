import Derived.Test.YtfngmdebmedkjacGreatDoorSnB
/- Lists of structures in memory: parameters, statements, stages. -/
namespace Go.Proofs.YtfngmdebmedkjacGreatDoor
open Go.RowKit

/-- Things, each in some cells, one behind the other. -/
def Rw (R : Sx.Tr → List Value → Prop) : List Sx.Tr → List Value → Prop
  | [], cs => cs = []
  | d :: r, cs => ∃ c1 c2, cs = c1 ++ c2 ∧ R d c1 ∧ Rw R r c2
theorem Rw.mono {R R' : Sx.Tr → List Value → Prop} {l : List Sx.Tr} {cs : List Value} (h : Rw R l cs) (hR : ∀ d c, R d c → R' d c) : Rw R' l cs := by
  induction l generalizing cs with
  | nil => exact h
  | cons d r ih =>
    obtain ⟨c1, c2, h1, h2, h3⟩ := h
    exact ⟨c1, c2, h1, hR _ _ h2, ih h3⟩
theorem Rw.snoc {R : Sx.Tr → List Value → Prop} {l : List Sx.Tr} {cs c : List Value} {d : Sx.Tr} (h : Rw R l cs) (hd : R d c) : Rw R (l ++ [d]) (cs ++ c) := by
  induction l generalizing cs with
  | nil => cases h; exact ⟨c, [], by simp, hd, rfl⟩
  | cons x r ih =>
    obtain ⟨c1, c2, h1, h2, h3⟩ := h
    exact ⟨c1, c2 ++ c, by simp [h1], h2, ih h3⟩
theorem Rw.app {R : Sx.Tr → List Value → Prop} {l m : List Sx.Tr} {cs c : List Value} (h : Rw R l cs) (hm : Rw R m c) : Rw R (l ++ m) (cs ++ c) := by
  induction l generalizing cs with
  | nil => cases h; exact hm
  | cons x r ih =>
    obtain ⟨c1, c2, h1, h2, h3⟩ := h
    exact ⟨c1, c2 ++ c, by simp [h1], h2, ih h3⟩
theorem Rw.len {R : Sx.Tr → List Value → Prop} {z : Nat} (hz : ∀ d c, R d c → c.length = z) {l : List Sx.Tr} {cs : List Value} (h : Rw R l cs) : cs.length = l.length * z := by
  induction l generalizing cs with
  | nil => cases h; simp
  | cons d r ih =>
    obtain ⟨c1, c2, rfl, h2, h3⟩ := h
    rw [List.length_append, hz _ _ h2, ih h3, List.length_cons, Nat.succ_mul]
    omega
/-- The cells of one of them. -/
theorem Rw.at {R : Sx.Tr → List Value → Prop} {z : Nat} (hz : ∀ d c, R d c → c.length = z) {l : List Sx.Tr} {cs : List Value} (h : Rw R l cs) (i : Nat) (d : Sx.Tr) (hi : l[i]? = some d) : ∃ c, R d c ∧ ∀ (j : Nat) u, c[j]? = some u → cs[i * z + j]? = some u := by
  induction l generalizing cs i with
  | nil => simp at hi
  | cons x r ih =>
    obtain ⟨c1, c2, rfl, h2, h3⟩ := h
    have hl := hz _ _ h2
    cases i with
    | zero =>
      simp at hi
      subst hi
      refine ⟨c1, h2, fun j u hu => ?_⟩
      have hj : j < c1.length := (List.getElem?_eq_some_iff.1 hu).1
      rw [Nat.zero_mul, Nat.zero_add, List.getElem?_append_left hj]
      exact hu
    | succ i =>
      obtain ⟨c, hc, hcu⟩ := ih h3 i (by simpa using hi)
      refine ⟨c, hc, fun j u hu => ?_⟩
      rw [List.getElem?_append_right (by rw [hl, Nat.succ_mul]; omega), hl, show (i + 1) * z + j - z = i * z + j from by rw [Nat.succ_mul]; omega]
      exact hcu j u hu

/-- A slice of such things. -/
def Sl (R : Sx.Tr → List Value → Prop) (w : World) (P : Nat → Prop) (l : List Sx.Tr) (v : Value) : Prop :=
  ∃ a cap, v = .slice a l.length cap ∧ (l = [] ∨ ∃ b off cs, a = some ⟨b, off, none⟩ ∧ P b ∧ Rw R l cs ∧ ∀ (j : Nat) u, cs[j]? = some u → w.cell? ⟨b, off + j, none⟩ = some u)
theorem Sl.keep {R R' : Sx.Tr → List Value → Prop} {w w' : World} {P : Nat → Prop} {S : List Nat} {l : List Sx.Tr} {v : Value} (h : Sl R w P l v) (hk : Kp S w w') (hS : ∀ k, k ∈ S → ¬ P k) (hR : ∀ d c, R d c → R' d c) : Sl R' w' P l v := by
  obtain ⟨a, cap, hv, h⟩ := h
  refine ⟨a, cap, hv, h.imp id ?_⟩
  rintro ⟨b, off, cs, ha, hb, hr, hc⟩
  exact ⟨b, off, cs, ha, hb, hr.mono hR, fun j u hu => hk.some (hc j u hu) (fun hm => hS b hm hb)⟩
theorem Sl.base {R R' : Sx.Tr → List Value → Prop} {w : World} {P P' : Nat → Prop} {l : List Sx.Tr} {v : Value} (h : Sl R w P l v) (hP : ∀ b, b < w.heap.size → P b → P' b) (hR : ∀ d c, R d c → R' d c ∧ c ≠ []) : Sl R' w P' l v := by
  obtain ⟨a, cap, hv, h⟩ := h
  refine ⟨a, cap, hv, ?_⟩
  rcases h with h | ⟨b, off, cs, ha, hb, hr, hc⟩
  · exact .inl h
  · cases l with
    | nil => exact .inl rfl
    | cons d r =>
      refine .inr ⟨b, off, cs, ha, hP b ?_ hb, hr.mono (fun d c h => (hR d c h).1), hc⟩
      obtain ⟨c1, c2, rfl, h2, _⟩ := hr
      cases c1 with
      | nil => exact absurd rfl (hR _ _ h2).2
      | cons u c1 => exact World.block_lt_of_cell? w _ (hc 0 u rfl)
theorem Sl.nil (R : Sx.Tr → List Value → Prop) (w : World) (P : Nat → Prop) (a : Option Addr) (cap : Nat) : Sl R w P [] (.slice a 0 cap) := ⟨a, cap, rfl, .inl rfl⟩
theorem Sl.of_own {R : Sx.Tr → List Value → Prop} {w : World} {P : Nat → Prop} {B t z n : Nat} {l : List Sx.Tr} {v : Value} {cs : List Value} (h : w.ownsRow B t z v n cs) (hn : n = l.length) (hP : ∀ b, B ≤ b → P b) (hr : Rw R l cs) : Sl R w P l v := by
  subst hn
  rcases h.2 with ⟨rfl, hn⟩ | ⟨g, cap, cur, rfl, hB, hg, _⟩
  · have hl : l = [] := by cases l with
      | nil => rfl
      | cons a r => simp at hn
    subst hl
    exact Sl.nil _ _ _ _ _
  · refine ⟨_, cap, rfl, .inr ⟨g, 0, cs, rfl, hP g hB, hr, fun j u hu => ?_⟩⟩
    have := h.cells (g := g) rfl j u hu
    rwa [Addr.add_mid] at this

def RP (d : Sx.Tr) (c : List Value) : Prop := ∃ nm T, d = Sx.tP nm T ∧ c = [.string (bs nm), .string (bs T)]
/-- Statements. -/
def SL (w : World) (P : Nat → Prop) : Nat → List Sx.Tr → Value → Prop
  | 0, _, _ => False
  | n + 1, l, v => Sl (fun d c => ∃ D at' A B T N E body els uE uB uL, d = Sx.tS D at' A B T N E body els ∧
      c = [.int .i64 D, .int .i64 at', .string (bs A), .string (bs B), .string (bs T), .int .i64 N, uE, uB, uL] ∧ EL w P n E uE ∧ SL w P n body uB ∧ SL w P n els uL) w P l v
def RS (w : World) (P : Nat → Prop) (n : Nat) (d : Sx.Tr) (c : List Value) : Prop := ∃ D at' A B T N E body els uE uB uL, d = Sx.tS D at' A B T N E body els ∧
      c = [.int .i64 D, .int .i64 at', .string (bs A), .string (bs B), .string (bs T), .int .i64 N, uE, uB, uL] ∧ EL w P n E uE ∧ SL w P n body uB ∧ SL w P n els uL
theorem SL_succ (w : World) (P : Nat → Prop) (n : Nat) (l : List Sx.Tr) (v : Value) : SL w P (n + 1) l v = Sl (RS w P n) w P l v := rfl
def RG (w : World) (P : Nat → Prop) (n : Nat) (d : Sx.Tr) (c : List Value) : Prop := ∃ nm at' ps body uP uB, d = Sx.tG nm at' ps body ∧
      c = [.string (bs nm), .int .i64 at', uP, uB] ∧ Sl RP w P ps uP ∧ SL w P n body uB
theorem SL.keep {w w' : World} {S : List Nat} {P : Nat → Prop} {n : Nat} {l : List Sx.Tr} {v : Value} (h : SL w P n l v) (hk : Kp S w w') (hS : ∀ k, k ∈ S → ¬ P k) : SL w' P n l v := by
  induction n generalizing l v with
  | zero => cases h
  | succ n ih =>
    rw [SL_succ] at h ⊢
    refine h.keep hk hS ?_
    rintro d c ⟨D, at', A, B, T, N, E, body, els, uE, uB, uL, h1, h2, h3, h4, h5⟩
    exact ⟨D, at', A, B, T, N, E, body, els, uE, uB, uL, h1, h2, h3.keep hk hS, ih h4, ih h5⟩
theorem SL.base {w : World} {P P' : Nat → Prop} {n : Nat} {l : List Sx.Tr} {v : Value} (h : SL w P n l v) (hP : ∀ b, b < w.heap.size → P b → P' b) : SL w P' n l v := by
  induction n generalizing l v with
  | zero => cases h
  | succ n ih =>
    rw [SL_succ] at h ⊢
    refine h.base hP ?_
    rintro d c ⟨D, at', A, B, T, N, E, body, els, uE, uB, uL, h1, h2, h3, h4, h5⟩
    exact ⟨⟨D, at', A, B, T, N, E, body, els, uE, uB, uL, h1, h2, h3.base hP, ih h4, ih h5⟩, by rw [h2]; simp⟩
theorem SL.more {w : World} {P : Nat → Prop} {n : Nat} {l : List Sx.Tr} {v : Value} (m : Nat) (h : SL w P n l v) : SL w P (n + m) l v := by
  induction n generalizing l v with
  | zero => cases h
  | succ n ih =>
    rw [show n + 1 + m = n + m + 1 from by omega]
    rw [SL_succ] at h ⊢
    obtain ⟨a, cap, hv, h⟩ := h
    refine ⟨a, cap, hv, h.imp id ?_⟩
    rintro ⟨b, off, cs, ha, hb, hr, hc⟩
    refine ⟨b, off, cs, ha, hb, hr.mono ?_, hc⟩
    rintro d c ⟨D, at', A, B, T, N, E, body, els, uE, uB, uL, h1, h2, h3, h4, h5⟩
    exact ⟨D, at', A, B, T, N, E, body, els, uE, uB, uL, h1, h2, h3.more m, ih h4, ih h5⟩
theorem SL.nil (w : World) (P : Nat → Prop) (a : Option Addr) (cap : Nat) : SL w P 1 [] (.slice a 0 cap) := Sl.nil _ _ _ _ _
theorem SL.slice {w : World} {P : Nat → Prop} {n : Nat} {l : List Sx.Tr} {v : Value} (h : SL w P n l v) : ∃ a cap, v = .slice a l.length cap := by
  cases n with
  | zero => cases h
  | succ n => obtain ⟨a, cap, hv, _⟩ := h; exact ⟨a, cap, hv⟩
theorem RS.keep {w w' : World} {S : List Nat} {P : Nat → Prop} {n : Nat} {d : Sx.Tr} {c : List Value} (h : RS w P n d c) (hk : Kp S w w') (hS : ∀ k, k ∈ S → ¬ P k) : RS w' P n d c := by
  obtain ⟨D, at', A, B, T, N, E, body, els, uE, uB, uL, h1, h2, h3, h4, h5⟩ := h
  exact ⟨D, at', A, B, T, N, E, body, els, uE, uB, uL, h1, h2, h3.keep hk hS, h4.keep hk hS, h5.keep hk hS⟩
theorem RS.base {w : World} {P P' : Nat → Prop} {n : Nat} {d : Sx.Tr} {c : List Value} (h : RS w P n d c) (hP : ∀ b, b < w.heap.size → P b → P' b) : RS w P' n d c := by
  obtain ⟨D, at', A, B, T, N, E, body, els, uE, uB, uL, h1, h2, h3, h4, h5⟩ := h
  exact ⟨D, at', A, B, T, N, E, body, els, uE, uB, uL, h1, h2, h3.base hP, h4.base hP, h5.base hP⟩
theorem RS.more {w : World} {P : Nat → Prop} {n : Nat} {d : Sx.Tr} {c : List Value} (m : Nat) (h : RS w P n d c) : RS w P (n + m) d c := by
  obtain ⟨D, at', A, B, T, N, E, body, els, uE, uB, uL, h1, h2, h3, h4, h5⟩ := h
  exact ⟨D, at', A, B, T, N, E, body, els, uE, uB, uL, h1, h2, h3.more m, h4.more m, h5.more m⟩
theorem RG.keep {w w' : World} {S : List Nat} {P : Nat → Prop} {n : Nat} {d : Sx.Tr} {c : List Value} (h : RG w P n d c) (hk : Kp S w w') (hS : ∀ k, k ∈ S → ¬ P k) : RG w' P n d c := by
  obtain ⟨nm, at', ps, body, uP, uB, h1, h2, h3, h4⟩ := h
  exact ⟨nm, at', ps, body, uP, uB, h1, h2, h3.keep hk hS (fun _ _ h => h), h4.keep hk hS⟩
theorem RP_ne {d : Sx.Tr} {c : List Value} (h : RP d c) : c ≠ [] := by
  obtain ⟨nm, T, _, rfl⟩ := h; simp
theorem RG.base {w : World} {P P' : Nat → Prop} {n : Nat} {d : Sx.Tr} {c : List Value} (h : RG w P n d c) (hP : ∀ b, b < w.heap.size → P b → P' b) : RG w P' n d c := by
  obtain ⟨nm, at', ps, body, uP, uB, h1, h2, h3, h4⟩ := h
  exact ⟨nm, at', ps, body, uP, uB, h1, h2, h3.base hP (fun _ _ h => ⟨h, RP_ne h⟩), h4.base hP⟩
theorem RG.more {w : World} {P : Nat → Prop} {n : Nat} {d : Sx.Tr} {c : List Value} (m : Nat) (h : RG w P n d c) : RG w P (n + m) d c := by
  obtain ⟨nm, at', ps, body, uP, uB, h1, h2, h3, h4⟩ := h
  exact ⟨nm, at', ps, body, uP, uB, h1, h2, h3, h4.more m⟩
end Go.Proofs.YtfngmdebmedkjacGreatDoor

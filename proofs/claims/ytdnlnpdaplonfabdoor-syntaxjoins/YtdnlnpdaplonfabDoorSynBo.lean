import Derived.Test.YtdnlnpdaplonfabDoorSynCs
/- Two rows, one behind the other. -/
namespace Go.Proofs.YtdnlnpdaplonfabDoor
open Go.RowKit

theorem GL.more {w : World} {P : Nat → Prop} {n k : Nat} {l : List Sx.Tr} {v : Value} (h : Sl (RG w P n) w P l v) (hk : n ≤ k) : Sl (RG w P k) w P l v := by
  obtain ⟨m, rfl⟩ : ∃ m, k = n + m := ⟨k - n, by omega⟩
  obtain ⟨a, cap, hv, h⟩ := h
  refine ⟨a, cap, hv, h.imp id ?_⟩
  rintro ⟨b, off, cs, ha, hb, hr, hc⟩
  exact ⟨b, off, cs, ha, hb, hr.mono (fun d c h => h.more m), hc⟩
theorem rg_one {w : World} {P : Nat → Prop} {n : Nat} {l : List Sx.Tr} {cs : List Value} (h : Rw (RG w P n) l cs) : ∀ u ∈ cs, u.oneCell' = true := by
  induction l generalizing cs with
  | nil => cases h; simp
  | cons d r ih =>
    obtain ⟨c1, c2, rfl, ⟨nm, at', ps, body, uP, uB, -, rfl, hP, hB⟩, h3⟩ := h
    obtain ⟨a, cap, rfl, -⟩ := hP
    obtain ⟨a2, cap2, rfl⟩ := hB.slice
    intro u hu
    simp at hu
    rcases hu with rfl | rfl | rfl | rfl | hu
    · rfl
    · rfl
    · rfl
    · rfl
    · exact ih h3 u hu
theorem own_some {w : World} {B t z n cap : Nat} {a : Option Addr} {cs : List Value} (h : w.ownsRow B t z (.slice a n cap) n cs) (hn : 0 < n) : ∃ g, a = some ⟨g, 0, none⟩ ∧ B ≤ g ∧ g < w.heap.size ∧ ∀ (j : Nat) u, cs[j]? = some u → w.cell? ⟨g, j, none⟩ = some u := by
  rcases h.2 with ⟨hv, h0⟩ | ⟨g, cap', cur, hv, hB, hg, _⟩
  · omega
  · cases hv
    refine ⟨g, rfl, hB, ?_, fun j u hu => ?_⟩
    · rcases Nat.lt_or_ge g w.heap.size with h' | h'
      · exact h'
      · rw [Array.getElem?_eq_none h'] at hg; cases hg
    · have := h.cells (g := g) rfl j u hu
      rwa [Addr.add_mid, Nat.zero_add] at this
/-- A copy, its row a letter: its trees lie from B on, below T. -/
structure Cy (n : Nat) (l : List Sx.Tr) (w0 w : World) (B T g cap : Nat) (cs : List Value) : Prop where
  own : w.ownsRow B 45 4 (.slice (some ⟨g, 0, none⟩) l.length cap) l.length cs
  rw : Rw (RG w (fun b => B ≤ b ∧ b < T ∧ b ≠ g) n) l cs
  kp : Kp [] w0 w
  lo : w0.heap.size ≤ B
  up : B ≤ g
  lt : g < T
  top : T ≤ w.heap.size
theorem Cy.mk' {n : Nat} {l : List Sx.Tr} {w0 X : World} {e : Ending} {w : World} (h : CO n l X e w) (hk : Kp [] w0 X) (hl : 0 < l.length) : ∃ B g cap cs, e = .returned (.agg #[.slice (some ⟨g, 0, none⟩) l.length cap]) ∧ Cy n l w0 w B w.heap.size g cap cs ∧ Kp [] X w ∧ X.heap.size ≤ B := by
  obtain ⟨a, cap, cs, rfl, h1, h2, h3⟩ := h
  obtain ⟨g, rfl, h4, h5, -⟩ := own_some h1 hl
  have := hk.size
  exact ⟨X.heap.size + 3, g, cap, cs, rfl, ⟨h1, h2.mono (fun d c hd => hd.base (fun b hb hP => ⟨hP.1, hb, fun e => hP.2 (by rw [e]; rfl)⟩)), hk.trans h3, by omega, h4, h5, Nat.le_refl _⟩, h3, by omega⟩
theorem Cy.keep {n : Nat} {l : List Sx.Tr} {w0 w w' : World} {B T g cap : Nat} {cs : List Value} (h : Cy n l w0 w B T g cap cs) (k : Kp [] w w') : Cy n l w0 w' B T g cap cs :=
  ⟨own_keep h.own k (by simp), h.rw.mono (fun d c hd => hd.keep k (by simp)), h.kp.trans k, h.lo, h.up, h.lt, Nat.le_trans h.top k.size⟩
theorem Cy.cells {n : Nat} {l : List Sx.Tr} {w0 w : World} {B T g cap : Nat} {cs : List Value} (h : Cy n l w0 w B T g cap cs) : ∀ (j : Nat) u, cs[j]? = some u → w.cell? ((⟨g, 0, none⟩ : Addr).add j) = some u := fun j u hu => h.own.cells (g := g) rfl j u hu
/-- Both. -/
theorem Cy.both {n : Nat} {P Q : List Sx.Tr} {w0 w1 X w9 : World} {B T g cap B2 T2 g2 cap2 g9 cap9 bb : Nat} {cs cs2 : List Value} (h1 : Cy n P w0 X B T g cap cs) (h2 : Cy n Q w1 X B2 T2 g2 cap2 cs2) (hw : T ≤ w1.heap.size)
    (hown : w9.ownsRow B 45 4 (.slice (some ⟨g9, 0, none⟩) (P.length + Q.length) cap9) (P.length + Q.length) (cs ++ cs2)) (hg : X.grownBy w9 (some g)) (hbb : (bb < B ∨ (T ≤ bb ∧ bb < B2) ∨ T2 ≤ bb) ∧ bb ≠ g9) :
    Sl (RG w9 (fun b => b ≠ bb) n) w9 (fun b => b ≠ bb) (P ++ Q) (.slice (some ⟨g9, 0, none⟩) (P.length + Q.length) cap9) ∧ Kp [] w0 w9 := by
  have e1 := h1.lo
  have e2 := h1.up
  have e3 := h1.lt
  have e4 := h2.lo
  have e5 := h2.up
  have e6 := h2.lt
  have hR : Rw (RG X (fun b => b ≠ bb ∧ b ≠ g) n) (P ++ Q) (cs ++ cs2) := by
    refine Rw.app (h1.rw.mono (fun d c hd => hd.base (fun b _ hb => ?_))) (h2.rw.mono (fun d c hd => hd.base (fun b _ hb => ?_)))
    · obtain ⟨a1, a2, a3⟩ := hb
      exact ⟨by omega, a3⟩
    · obtain ⟨a1, a2, a3⟩ := hb
      exact ⟨by omega, by omega⟩
  have kg : Kp [g] X w9 := ⟨hg.os, hg.tape, hg.output, hg.size, fun k hk hn => hg.block k hk (fun e => hn (by simp [Option.some.inj e]))⟩
  have hR9 : Rw (RG w9 (fun b => b ≠ bb ∧ b ≠ g) n) (P ++ Q) (cs ++ cs2) := hR.mono (fun d c hd => hd.keep kg (by simp))
  refine ⟨?_, ⟨hg.os.trans h1.kp.os, hg.tape.trans h1.kp.tape, hg.output.trans h1.kp.output, Nat.le_trans h1.kp.size hg.size, fun k hk hn => ?_⟩⟩
  · rw [← List.length_append] at hown ⊢
    refine ⟨_, cap9, rfl, .inr ⟨g9, 0, cs ++ cs2, rfl, fun e => hbb.2 e.symm, hR9.mono (fun d c hd => hd.base (fun b _ hb => hb.1)), fun j u hu => ?_⟩⟩
    have := hown.cells (g := g9) rfl j u hu
    rwa [Addr.add_mid] at this
  · exact (hg.block k (Nat.lt_of_lt_of_le hk h1.kp.size) (fun e => by have := Option.some.inj e; omega)).trans (h1.kp.block k hk hn)
theorem way_set {n : Nat} {P Q : List Sx.Tr} {w0 w1 X w9 : World} {B T g cap B2 T2 g2 cap2 g9 cap9 bb : Nat} {cs cs2 : List Value} {u : Value} (h1 : Cy n P w0 X B T g cap cs) (h2 : Cy n Q w1 X B2 T2 g2 cap2 cs2) (hw : T ≤ w1.heap.size)
    (hown : w9.ownsRow B 45 4 (.slice (some ⟨g9, 0, none⟩) (P.length + Q.length) cap9) (P.length + Q.length) (cs ++ cs2)) (hg : X.grownBy w9 (some g)) (hbb : (bb < B ∨ (T ≤ bb ∧ bb < B2) ∨ T2 ≤ bb) ∧ bb ≠ g9) (hc : w9.cell? ⟨bb, 0, none⟩ = some u) (hlo : w0.heap.size ≤ bb) :
    (w9.setCell ⟨bb, 0, none⟩ (.slice (some ⟨g9, 0, none⟩) (P.length + Q.length) cap9)).cell? ⟨bb, 0, none⟩ = some (.slice (some ⟨g9, 0, none⟩) (P.length + Q.length) cap9) ∧ Hid (Kp [] w0 (w9.setCell ⟨bb, 0, none⟩ (.slice (some ⟨g9, 0, none⟩) (P.length + Q.length) cap9))) ∧
      Hid (Sl (RG (w9.setCell ⟨bb, 0, none⟩ (.slice (some ⟨g9, 0, none⟩) (P.length + Q.length) cap9)) (fun _ => True) n) (w9.setCell ⟨bb, 0, none⟩ (.slice (some ⟨g9, 0, none⟩) (P.length + Q.length) cap9)) (fun _ => True) (P ++ Q) (.slice (some ⟨g9, 0, none⟩) (P.length + Q.length) cap9)) := by
  obtain ⟨hS, hK⟩ := Cy.both (bb := bb) h1 h2 hw hown hg hbb
  have kz : Kp [bb] w9 (w9.setCell ⟨bb, 0, none⟩ (.slice (some ⟨g9, 0, none⟩) (P.length + Q.length) cap9)) := Kp.rb (Kp.refl _ _) _ _
  refine ⟨by simp [go_sem, hc], hK.nb hlo _ _, ?_⟩
  have h3 := hS.keep (R' := RG (w9.setCell ⟨bb, 0, none⟩ (.slice (some ⟨g9, 0, none⟩) (P.length + Q.length) cap9)) (fun b => b ≠ bb) n) kz (by simp) (fun d c h => h.keep kz (by simp))
  exact h3.base (fun _ _ _ => trivial) (fun d c h => ⟨h.base (fun _ _ _ => trivial), by obtain ⟨nm, at', ps, body, uP, uB, _, rfl, _⟩ := h; simp⟩)
theorem way_new {n : Nat} {P Q : List Sx.Tr} {w0 w1 X w9 : World} {B T g cap B2 T2 g2 cap2 g9 cap9 : Nat} {t : TypeId} {cs cs2 : List Value} (h1 : Cy n P w0 X B T g cap cs) (h2 : Cy n Q w1 X B2 T2 g2 cap2 cs2) (hw : T ≤ w1.heap.size)
    (hown : w9.ownsRow B 45 4 (.slice (some ⟨g9, 0, none⟩) (P.length + Q.length) cap9) (P.length + Q.length) (cs ++ cs2)) (hg : X.grownBy w9 (some g)) (hlt : g9 < w9.heap.size) :
    (w9.alloc (.cells #[.slice (some ⟨g9, 0, none⟩) (P.length + Q.length) cap9] t)).cell? ⟨w9.heap.size, 0, none⟩ = some (.slice (some ⟨g9, 0, none⟩) (P.length + Q.length) cap9) ∧ Hid (Kp [] w0 (w9.alloc (.cells #[.slice (some ⟨g9, 0, none⟩) (P.length + Q.length) cap9] t))) ∧
      Hid (Sl (RG (w9.alloc (.cells #[.slice (some ⟨g9, 0, none⟩) (P.length + Q.length) cap9] t)) (fun _ => True) n) (w9.alloc (.cells #[.slice (some ⟨g9, 0, none⟩) (P.length + Q.length) cap9] t)) (fun _ => True) (P ++ Q) (.slice (some ⟨g9, 0, none⟩) (P.length + Q.length) cap9)) := by
  have e1 := h2.top
  have e2 := hg.size
  obtain ⟨hS, hK⟩ := Cy.both (bb := w9.heap.size) h1 h2 hw hown hg ⟨by omega, by omega⟩
  refine ⟨by simp [go_sem], hK.alloc _, ?_⟩
  have h3 := hS.keep (R' := RG (w9.alloc (.cells #[.slice (some ⟨g9, 0, none⟩) (P.length + Q.length) cap9] t)) (fun b => b ≠ w9.heap.size) n) ((Kp.refl [] _).alloc (.cells #[.slice (some ⟨g9, 0, none⟩) (P.length + Q.length) cap9] t)) (by simp) (fun d c h => h.keep ((Kp.refl [] _).alloc _) (by simp))
  exact h3.base (fun _ _ _ => trivial) (fun d c h => ⟨h.base (fun _ _ _ => trivial), by obtain ⟨nm, at', ps, body, uP, uB, _, rfl, _⟩ := h; simp⟩)
theorem field_prog (x : Value) (w : World) : (Instr.field 33 (.agg #[x]) 0).run Tryd.prog w = .ok x w := by kernel_rfl
end Go.Proofs.YtdnlnpdaplonfabDoor

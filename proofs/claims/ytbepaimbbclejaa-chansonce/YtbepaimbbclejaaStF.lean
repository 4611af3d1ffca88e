import Derived.Test.YtbepaimbbclejaaStE
/- Package chans: one more channel. -/
namespace Go.Proofs.Ytbepaimbbclejaa
open Go.RowKit

theorem Dj.snocb {l : List (Option Nat)} (h : Dj l) {b : Nat} (hb : ∀ j : Nat, l[j]? ≠ some (some b)) : Dj (l ++ [some b]) := by
  have key : ∀ i x, (l ++ [some b])[i]? = some (some x) → l[i]? = some (some x) ∨ (i = l.length ∧ x = b) := fun i x hi => by
    rcases Nat.lt_or_ge i l.length with h1 | h1
    · rw [List.getElem?_append_left h1] at hi; exact .inl hi
    · rw [List.getElem?_append_right h1] at hi
      rcases Nat.eq_zero_or_pos (i - l.length) with e | e
      · rw [e] at hi; exact .inr ⟨by omega, by simpa using hi.symm⟩
      · rw [List.getElem?_eq_none (by simp; omega)] at hi; cases hi
  intro i j x hi hj
  rcases key i x hi with h1 | ⟨h1, e1⟩ <;> rcases key j x hj with h2 | ⟨h2, e2⟩
  · exact h i j x h1 h2
  · subst e2; exact absurd h1 (hb i)
  · subst e1; exact absurd h2 (hb j)
  · omega
theorem app_or {l : List (Option Nat)} {a b : Nat} {j x : Nat} (h : (l ++ [some a, some b, none])[j]? = some (some x)) : l[j]? = some (some x) ∨ x = a ∨ x = b := by
  rcases Nat.lt_or_ge j l.length with h1 | h1
  · rw [List.getElem?_append_left h1] at h; exact .inl h
  · rw [List.getElem?_append_right h1] at h
    match j - l.length, h with
    | 0, h => exact .inr (.inl (by simpa using h.symm))
    | 1, h => exact .inr (.inr (by simpa using h.symm))
    | 2, h => simp at h
    | k + 3, h => simp at h
section
variable {B : Nat} {w X3 X4 : World} {q pl : Nat} {ve vc : Value} {P : List Pl} {E : List En} {S N : List Int} {I : List (List (Int × Int))} {G : List Bool}
theorem ST.push (h : ST B w q pl ve vc P E S N I G) (hb : Below w.heap.size w X3) {pc r : Nat} {s : Int} (hc : CH B X3 (pc, r, .slice none 0 0) s 1 [] false) (hpc : w.heap.size ≤ pc) (hr : w.heap.size ≤ r) (hne : pc ≠ r) (hk : Kx (fun b => some b ≠ vc.ownBlock) X3 X4) {vc' : Value} (ho : X4.ownsRow B 63 1 vc' (P.length + 1) (pcl P ++ [.pointer (some ⟨pc, 0, none⟩)])) (hv : vc'.ownBlock = vc.ownBlock ∨ ∃ b, vc'.ownBlock = some b ∧ X3.heap.size ≤ b) :
    ST B (X4.setCell ⟨q, 1, none⟩ vc') q pl ve vc' (P ++ [(pc, r, .slice none 0 0)]) E (S ++ [s]) (N ++ [1]) (I ++ [[]]) (G ++ [false]) ∧ BC w (X4.setCell ⟨q, 1, none⟩ vc') (sob q pl ve vc P) (sob q pl ve vc' (P ++ [(pc, r, .slice none 0 0)])) := by
  have h3 := h.keep hb
  have f := h3.keepf (fun j => j = 3) hk (fun j b hd hj e => hd (h3.dj j 3 b hj (show some vc.ownBlock = _ by rw [← e])))
  have hpl := World.block_lt_of_cell? _ ⟨pc, 0, none⟩ hc.c0
  have hrl := hc.r.lt.1
  have hvw : vc'.ownBlock = vc.ownBlock ∨ ∃ b, vc'.ownBlock = some b ∧ w.heap.size ≤ b := hv.imp id (fun ⟨b, e, hb'⟩ => ⟨b, e, Nat.le_trans hb.size hb'⟩)
  have dj1 : Dj (sob q pl ve vc' P) := h.dj.set 3 vc'.ownBlock (hvw.elim (fun e => .inr (.inl (by rw [e]; rfl))) (fun ⟨b, e, hb⟩ => .inr (.inr ⟨b, e, h.new hb⟩)))
  have hn1 : ∀ {b : Nat}, w.heap.size ≤ b → b < X3.heap.size → ∀ j : Nat, (sob q pl ve vc' P)[j]? ≠ some (some b) := fun {b} hb1 hb2 j hj => by
    rcases set_or (l := sob q pl ve vc P) (k := 3) (x := vc'.ownBlock) hj with h1 | h1
    · exact h.new hb1 j h1
    · rcases hv with e | ⟨b', e, hb'⟩
      · rw [e] at h1; exact h.new hb1 3 (by show some vc.ownBlock = _; rw [h1])
      · rw [e] at h1; cases h1; omega
  have eqo : sob q pl ve vc' (P ++ [(pc, r, .slice none 0 0)]) = sob q pl ve vc' P ++ [some pc, some r, none] := by
    show some q :: some pl :: ve.ownBlock :: vc'.ownBlock :: cob (P ++ [(pc, r, .slice none 0 0)]) = _
    rw [cob_app]
    rfl
  have dj' : Dj (sob q pl ve vc' (P ++ [(pc, r, .slice none 0 0)])) := by
    rw [eqo, show sob q pl ve vc' P ++ [some pc, some r, none] = ((sob q pl ve vc' P ++ [some pc]) ++ [some r]) ++ [none] by simp]
    refine ((dj1.snocb (hn1 hpc hpl)).snocb (fun j hj => ?_)).snoc
    rcases Nat.lt_or_ge j (sob q pl ve vc' P).length with h1 | h1
    · rw [List.getElem?_append_left h1] at hj; exact hn1 hr hrl j hj
    · rw [List.getElem?_append_right h1] at hj
      rcases Nat.eq_zero_or_pos (j - (sob q pl ve vc' P).length) with e | e
      · rw [e] at hj; simp at hj; exact hne hj
      · rw [List.getElem?_eq_none (by simp; omega)] at hj; cases hj
  have kq : Kx (fun b => b ≠ q) X4 (X4.setCell ⟨q, 1, none⟩ vc') := (Kx.refl _ _).set (p := ⟨q, 1, none⟩) (.inr (fun e => e rfl)) _
  have hq : q < w.heap.size := h.ql
  have hneq : ∀ (j b : Nat), j ≠ 0 → (sob q pl ve vc' (P ++ [(pc, r, .slice none 0 0)]))[j]? = some (some b) → b ≠ q := fun j b hj hb e => hj (dj' j 0 b hb (by rw [e]; rfl))
  have hvc : ∀ b, w.heap.size ≤ b → b < X3.heap.size → some b ≠ vc.ownBlock := fun b hb1 _ e => h.new hb1 3 (by show some vc.ownBlock = _; rw [← e])
  obtain ⟨l1, l2, l3, l4⟩ := h.ln
  have hc4 : CH B (X4.setCell ⟨q, 1, none⟩ vc') (pc, r, .slice none 0 0) s 1 [] false := (hc.keep hk (hvc pc hpc hpl) (hvc r hr hrl) (fun b hb => by cases hb)).keep kq (fun (e : pc = q) => by omega) (fun (e : r = q) => by omega) (fun b hb => by cases hb)
  refine ⟨⟨?_, World.cell?_setCell_same _ _ _ (f.c1 (by decide)), fun k => by rw [World.frozen?_setCell]; exact f.t (by decide) k, h.lo, ?_, ?_, by simp only [List.length_append, List.length_singleton]; omega, fun k p s2 n2 M2 g2 q1 q2 q3 q4 q5 => ?_, dj'⟩, ?_, fun j b hj => ?_⟩
  · rw [World.cell?_setCell_other _ _ _ _ (fun e => by injection e with _ e; omega)]
    exact f.c0 (by decide)
  · refine (f.lg (by decide) (by decide)).keepX kq (hneq 1 pl (by decide) rfl) (fun g hg => hneq 2 g (by decide) (by show some ve.ownBlock = _; rw [hg]))
  · have e1 : pcl (P ++ [(pc, r, .slice none 0 0)]) = pcl P ++ [.pointer (some ⟨pc, 0, none⟩)] := by simp [pcl]
    rw [e1, List.length_append, List.length_singleton]
    exact own_keepe ho (fun g hg => kq.block g (ho.lt g hg).2 (hneq 3 g (by decide) (by show some vc'.ownBlock = _; rw [hg])))
  · rcases Nat.lt_or_ge k P.length with hlt | hge
    · rw [List.getElem?_append_left hlt] at q1
      rw [List.getElem?_append_left (by omega)] at q2 q3 q4 q5
      have hch := f.ch k p s2 n2 M2 g2 (by omega) (by omega) (by omega) q1 q2 q3 q4 q5
      obtain ⟨e1, e2, e3⟩ := sob_at (q := q) (pl := pl) (ve := ve) (vc := vc') (P := P ++ [(pc, r, .slice none 0 0)]) (k := k) (p := p) (by rw [List.getElem?_append_left hlt]; exact q1)
      exact hch.keep kq (hneq _ _ (by omega) e1) (hneq _ _ (by omega) e2) (fun b hb => hneq (4 + (3 * k + 2)) b (by omega) (by rw [e3, hb]))
    · have hk0 : k = P.length := by
        have := (List.getElem?_eq_some_iff.1 q1).1
        simp at this; omega
      subst hk0
      rw [List.getElem?_append_right (by omega), Nat.sub_self] at q1
      rw [List.getElem?_append_right (by omega), l1, Nat.sub_self] at q2
      rw [List.getElem?_append_right (by omega), l2, Nat.sub_self] at q3
      rw [List.getElem?_append_right (by omega), l3, Nat.sub_self] at q4
      rw [List.getElem?_append_right (by omega), l4, Nat.sub_self] at q5
      cases q1; cases q2; cases q3; cases q4; cases q5
      exact hc4
  · have k1 : Kx (fun b => some b ≠ vc.ownBlock ∧ b ≠ q) w (X4.setCell ⟨q, 1, none⟩ vc') := ((Kx.of_below hb).step hk (fun b _ hb => hb.1)).step kq (fun b _ hb => hb.2)
    exact k1.mono (fun b _ hb => ⟨fun e => hb 3 (show some vc.ownBlock = _ by rw [← e]), fun e => hb 0 (by rw [e]; rfl)⟩)
  · rw [eqo] at hj
    rcases app_or hj with h1 | h1 | h1
    · rcases set_or (l := sob q pl ve vc P) (k := 3) (x := vc'.ownBlock) h1 with h2 | h2
      · exact .inl ⟨j, h2⟩
      · rcases hvw with e | ⟨b', e, hb'⟩
        · exact .inl ⟨3, by rw [e] at h2; show some vc.ownBlock = _; rw [h2]⟩
        · rw [e] at h2; cases h2; exact .inr hb'
    · rw [h1]; exact .inr hpc
    · rw [h1]; exact .inr hr
end
end Go.Proofs.Ytbepaimbbclejaa

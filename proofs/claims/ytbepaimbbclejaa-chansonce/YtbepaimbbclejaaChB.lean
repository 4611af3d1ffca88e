import Derived.Test.YtbepaimbbclejaaChA
/- The document's book in memory. -/
namespace Go.Proofs.Ytbepaimbbclejaa
open Go.RowKit

/-- Blocks of which none stands twice. -/
def Dj (l : List (Option Nat)) : Prop := ∀ (i j b : Nat), l[i]? = some (some b) → l[j]? = some (some b) → i = j
theorem Dj.set {l : List (Option Nat)} (h : Dj l) (k : Nat) (x : Option Nat) (hx : x = none ∨ l[k]? = some x ∨ ∃ b, x = some b ∧ ∀ j : Nat, l[j]? ≠ some (some b)) : Dj (l.set k x) := by
  have key : ∀ i b, (l.set k x)[i]? = some (some b) → (i ≠ k ∧ l[i]? = some (some b)) ∨ (i = k ∧ x = some b) := fun i b hi => by
    by_cases e : i = k
    · subst e
      rw [List.getElem?_set] at hi
      simp only [if_true] at hi
      split at hi
      · exact .inr ⟨rfl, by injection hi⟩
      · cases hi
    · rw [List.getElem?_set_ne (fun e' => e e'.symm)] at hi
      exact .inl ⟨e, hi⟩
  intro i j b hi hj
  rcases key i b hi with ⟨e1, h1⟩ | ⟨e1, h1⟩ <;> rcases key j b hj with ⟨e2, h2⟩ | ⟨e2, h2⟩
  · exact h i j b h1 h2
  · subst e2
    rcases hx with h0 | h0 | ⟨b', h0, h3⟩
    · rw [h0] at h2; cases h2
    · rw [h2] at h0; exact absurd (h i j b h1 h0) e1
    · rw [h0] at h2; cases h2; exact absurd h1 (h3 i)
  · subst e1
    rcases hx with h0 | h0 | ⟨b', h0, h3⟩
    · rw [h0] at h1; cases h1
    · rw [h1] at h0; exact absurd (h j i b h2 h0) e2
    · rw [h0] at h1; cases h1; exact absurd h2 (h3 j)
  · rw [e1, e2]
theorem Dj.snoc {l : List (Option Nat)} (h : Dj l) : Dj (l ++ [none]) := by
  have key : ∀ i b, (l ++ [none])[i]? = some (some b) → l[i]? = some (some b) := fun i b hi => by
    rcases Nat.lt_or_ge i l.length with h1 | h1
    · rwa [List.getElem?_append_left h1] at hi
    · rw [List.getElem?_append_right h1] at hi
      rcases Nat.eq_zero_or_pos (i - l.length) with e | e
      · rw [e] at hi; simp at hi
      · rw [List.getElem?_eq_none (by simp; omega)] at hi; cases hi
  exact fun i j b hi hj => h i j b (key i b hi) (key j b hj)
def obs (q : Nat) (ve vs vi vg : Value) (iv : List Value) : List (Option Nat) := some q :: ve.ownBlock :: vs.ownBlock :: vi.ownBlock :: vg.ownBlock :: iv.map Value.ownBlock
/-- The book at q: its ends, slots, items, and what is gone. -/
structure BK (B : Nat) (w : World) (q : Nat) (ve vs vi vg : Value) (iv : List Value) (E : List En) (S : List Int) (I : List (List (Int × Int))) (G : List Bool) : Prop where
  c0 : w.cell? ⟨q, 0, none⟩ = some ve
  c1 : w.cell? ⟨q, 1, none⟩ = some vs
  c2 : w.cell? ⟨q, 2, none⟩ = some vi
  c3 : w.cell? ⟨q, 3, none⟩ = some vg
  t : ∀ k, w.frozen? ⟨q, k, none⟩ = false
  lo : B ≤ q
  oe : w.ownsRow B 48 4 ve E.length (ecl E)
  os : w.ownsRow B 3 1 vs S.length (S.map (.int .i64))
  oi : w.ownsRow B 52 1 vi I.length iv
  og : w.ownsRow B 4 1 vg G.length (G.map .bool)
  it : ∀ (k : Nat) M v, I[k]? = some M → iv[k]? = some v → IO B w v M
  dj : Dj (obs q ve vs vi vg iv)
/-- All of it but what stands at a place. -/
structure BKf (i : Nat) (B : Nat) (w : World) (q : Nat) (ve vs vi vg : Value) (iv : List Value) (E : List En) (S : List Int) (I : List (List (Int × Int))) (G : List Bool) : Prop where
  c0 : i ≠ 0 → w.cell? ⟨q, 0, none⟩ = some ve
  c1 : i ≠ 0 → w.cell? ⟨q, 1, none⟩ = some vs
  c2 : i ≠ 0 → w.cell? ⟨q, 2, none⟩ = some vi
  c3 : i ≠ 0 → w.cell? ⟨q, 3, none⟩ = some vg
  t : i ≠ 0 → ∀ k, w.frozen? ⟨q, k, none⟩ = false
  oe : i ≠ 1 → w.ownsRow B 48 4 ve E.length (ecl E)
  os : i ≠ 2 → w.ownsRow B 3 1 vs S.length (S.map (.int .i64))
  oi : i ≠ 3 → w.ownsRow B 52 1 vi I.length iv
  og : i ≠ 4 → w.ownsRow B 4 1 vg G.length (G.map .bool)
  it : ∀ (k : Nat) M v, i ≠ 5 + k → I[k]? = some M → iv[k]? = some v → IO B w v M
section
variable {B : Nat} {w w' : World} {q : Nat} {ve vs vi vg : Value} {iv : List Value} {E : List En} {S : List Int} {I : List (List (Int × Int))} {G : List Bool}
theorem obs_it {k : Nat} {v : Value} (hv : iv[k]? = some v) : (obs q ve vs vi vg iv)[5 + k]? = some v.ownBlock := by
  show (some q :: ve.ownBlock :: vs.ownBlock :: vi.ownBlock :: vg.ownBlock :: iv.map Value.ownBlock)[5 + k]? = _
  rw [Nat.add_comm]
  show (iv.map Value.ownBlock)[k]? = _
  rw [List.getElem?_map, hv]
  rfl
theorem BK.lg (h : BK B w q ve vs vi vg iv E S I G) : LG B w q ve E :=
  ⟨h.c0, h.t, h.lo, h.oe, fun e => absurd (h.dj 0 1 q rfl (by show some ve.ownBlock = _; rw [e])) (by decide)⟩
theorem BK.ivl (h : BK B w q ve vs vi vg iv E S I G) : iv.length = I.length := by have := h.oi.1; omega
theorem BK.bnd (h : BK B w q ve vs vi vg iv E S I G) {j b : Nat} (hj : (obs q ve vs vi vg iv)[j]? = some (some b)) : B ≤ b ∧ b < w.heap.size := by
  match j, hj with
  | 0, hj => cases hj; exact ⟨h.lo, World.block_lt_of_cell? _ _ h.c0⟩
  | 1, hj => exact h.oe.lt b (by injection hj)
  | 2, hj => exact h.os.lt b (by injection hj)
  | 3, hj => exact h.oi.lt b (by injection hj)
  | 4, hj => exact h.og.lt b (by injection hj)
  | k + 5, hj =>
    have hj' : (iv.map Value.ownBlock)[k]? = some (some b) := hj
    rw [List.getElem?_map, Option.map_eq_some_iff] at hj'
    obtain ⟨v, hv, e⟩ := hj'
    have hk := (List.getElem?_eq_some_iff.1 hv).1
    rw [h.ivl] at hk
    exact (h.it k _ v (List.getElem?_eq_getElem hk) hv).lt b e
theorem BK.new (h : BK B w q ve vs vi vg iv E S I G) {b : Nat} (hb : w.heap.size ≤ b) : ∀ j : Nat, (obs q ve vs vi vg iv)[j]? ≠ some (some b) := fun j hj => by have := (h.bnd hj).2; omega
theorem BK.keepf (i : Nat) (h : BK B w q ve vs vi vg iv E S I G) {X : Nat → Prop} (hk : Kx X w w') (hX : ∀ (j b : Nat), j ≠ i → (obs q ve vs vi vg iv)[j]? = some (some b) → X b) : BKf i B w' q ve vs vi vg iv E S I G := by
  have hq : q < w.heap.size := World.block_lt_of_cell? _ _ h.c0
  refine ⟨fun hi => hk.cell h.c0 (hX 0 q (fun e => hi e.symm) rfl), fun hi => hk.cell h.c1 (hX 0 q (fun e => hi e.symm) rfl), fun hi => hk.cell h.c2 (hX 0 q (fun e => hi e.symm) rfl), fun hi => hk.cell h.c3 (hX 0 q (fun e => hi e.symm) rfl), fun hi k => (hk.frozen (p := ⟨q, k, none⟩) hq (hX 0 q (fun e => hi e.symm) rfl)).trans (h.t k), fun hi => own_keepe h.oe (fun g hg => hk.block g (h.oe.lt g hg).2 (hX 1 g (fun e => hi e.symm) (by show some ve.ownBlock = _; rw [hg]))), fun hi => own_keepe h.os (fun g hg => hk.block g (h.os.lt g hg).2 (hX 2 g (fun e => hi e.symm) (by show some vs.ownBlock = _; rw [hg]))), fun hi => own_keepe h.oi (fun g hg => hk.block g (h.oi.lt g hg).2 (hX 3 g (fun e => hi e.symm) (by show some vi.ownBlock = _; rw [hg]))), fun hi => own_keepe h.og (fun g hg => hk.block g (h.og.lt g hg).2 (hX 4 g (fun e => hi e.symm) (by show some vg.ownBlock = _; rw [hg]))), fun k M v hi hM hv => ?_⟩
  have hio := h.it k M v hM hv
  exact hio.keep (fun g hg => hk.block g (hio.lt g hg).2 (hX (5 + k) g (fun e => hi e.symm) (by rw [obs_it hv, hg])))
theorem BK.keepX (h : BK B w q ve vs vi vg iv E S I G) {X : Nat → Prop} (hk : Kx X w w') (hX : ∀ (j b : Nat), (obs q ve vs vi vg iv)[j]? = some (some b) → X b) : BK B w' q ve vs vi vg iv E S I G := by
  have f := h.keepf (5 + iv.length) hk (fun j b _ hj => hX j b hj)
  exact ⟨f.c0 (by omega), f.c1 (by omega), f.c2 (by omega), f.c3 (by omega), f.t (by omega), h.lo, f.oe (by omega), f.os (by omega), f.oi (by omega), f.og (by omega), fun k M v hM hv => f.it k M v (by have := (List.getElem?_eq_some_iff.1 hv).1; omega) hM hv, h.dj⟩
theorem BK.keep (h : BK B w q ve vs vi vg iv E S I G) (hb : Below w.heap.size w w') : BK B w' q ve vs vi vg iv E S I G := h.keepX (X := fun _ => True) (Kx.of_below hb) (fun _ _ _ => trivial)
end
/-- A book was changed: what else there was is as it was; what is its own is its own or new. -/
structure BC (w w' : World) (o o' : List (Option Nat)) : Prop where
  k : Kx (fun b => ∀ j : Nat, o[j]? ≠ some (some b)) w w'
  n : ∀ (j b : Nat), o'[j]? = some (some b) → (∃ i : Nat, o[i]? = some (some b)) ∨ w.heap.size ≤ b
theorem BC.trans {w w1 w2 : World} {o o1 o2 : List (Option Nat)} (h : BC w w1 o o1) (h' : BC w1 w2 o1 o2) : BC w w2 o o2 := by
  refine ⟨⟨h'.k.os.trans h.k.os, h'.k.tape.trans h.k.tape, h'.k.output.trans h.k.output, Nat.le_trans h.k.size h'.k.size, fun b hb hX => (h'.k.block b (Nat.lt_of_lt_of_le hb h.k.size) (fun j hj => ?_)).trans (h.k.block b hb hX)⟩, fun j b hj => ?_⟩
  · rcases h.n j b hj with ⟨i, hi⟩ | hs
    · exact hX i hi
    · omega
  · rcases h'.n j b hj with ⟨i, hi⟩ | hs
    · exact h.n i b hi
    · exact .inr (Nat.le_trans h.k.size hs)
theorem BC.of_below {w w' : World} (h : Below w.heap.size w w') (o : List (Option Nat)) : BC w w' o o := ⟨Kx.of_below h, fun j _ hj => .inl ⟨j, hj⟩⟩
end Go.Proofs.Ytbepaimbbclejaa

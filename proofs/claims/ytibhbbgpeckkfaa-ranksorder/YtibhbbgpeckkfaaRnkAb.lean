import Derived.Test.YtibhbbgpeckkfaaRnkAa
import Derived.BigRegion
/- Package ranks: newGraph. -/
namespace Go.Proofs.Ytibhbbgpeckkfaa
open Go.RowKit

theorem Try.infoInts : (Try.prog.info? 27).map (fun i => (i.zero, i.size, i.bytes)) = some (some (.slice none 0 0), 1, 24) := by kernel_rfl
theorem madeS_get (x : Value) (n k : Nat) (h : k < n) : (madeCells #[x] n)[k]? = some x := by
  unfold madeCells
  rw [Array.getElem?_map]
  simp [h, Nat.mod_one]
theorem make_graph (n : Nat) (hn : n ≤ 300) : ∃ Z : Array Value, (∀ k, k < n → Z[k]? = some (.slice none 0 0)) ∧ ∀ w : World, (Instr.makeSlice 45 (.int .i64 (n : Int)) (.int .i64 (n : Int))).run Try.prog w = .ok (.slice (some ⟨w.heap.size, 0, none⟩) n n) (w.alloc (.cells Z 27)) := by
  obtain ⟨i0, hi, hz0, hz1, hz2⟩ := info_parts Try.infoInts
  refine ⟨madeCells #[Value.slice none 0 0] n, madeS_get _ n, fun w => ?_⟩
  have := run_make (P := Try.prog) w 45 27 i0 (.slice none 0 0) Try.underlying45 hi hz0 .i64 .i64 (n : Int) (n : Int) (by omega) (Int.le_refl _) (by rw [hz2]; omega) (by omega)
  rw [hz1] at this
  simpa [Value.cells] using this
/-- A graph that is being made: each row in memory of its own. -/
structure GX (B gb : Nat) (w : World) (A : List (List Nat)) (V : List Value) : Prop where
  len : V.length = A.length
  cell : ∀ (i : Nat) v, V[i]? = some v → w.cell? ⟨gb, i, none⟩ = some v
  thaw : ∀ i, w.frozen? ⟨gb, i, none⟩ = false
  own : ∀ (i : Nat) v r, V[i]? = some v → A[i]? = some r → w.ownsRow B 3 1 v r.length (ints (up r))
  apart : ∀ (i j : Nat) u v b, V[i]? = some u → V[j]? = some v → u.ownBlock = some b → v.ownBlock = some b → i = j
  lt : gb < B
  sz : B ≤ w.heap.size
theorem GX.start (w : World) (Z : Array Value) (n : Nat) (hZ : ∀ k, k < n → Z[k]? = some (.slice none 0 0)) : GX (w.heap.size + 1) w.heap.size (w.alloc (.cells Z 27)) (List.replicate n []) (List.replicate n (.slice none 0 0)) := by
  have e1 : ∀ (i : Nat) v, (List.replicate n (Value.slice none 0 0))[i]? = some v → i < n ∧ v = .slice none 0 0 := fun i v hv => by
    have hi : i < n := by simpa using (List.getElem?_eq_some_iff.1 hv).1
    rw [List.getElem?_replicate, if_pos hi] at hv
    exact ⟨hi, (Option.some.inj hv).symm⟩
  refine ⟨by simp, fun i v hv => ?_, fun i => by simp [go_sem], fun i v r hv hr => ?_, fun i j u v b hu hv h1 h2 => ?_, Nat.lt_succ_self _, by simp⟩
  · obtain ⟨hi, rfl⟩ := e1 i v hv
    have := hZ i hi
    simp [go_sem, this]
  · obtain ⟨hi, rfl⟩ := e1 i v hv
    rw [List.getElem?_replicate, if_pos hi] at hr
    obtain rfl := (Option.some.inj hr)
    exact World.ownsRow_nil _ _ _ _
  · obtain ⟨hi, rfl⟩ := e1 i u hu
    cases h1
theorem GX.keep {B gb : Nat} {w w' : World} {A : List (List Nat)} {V : List Value} (h : GX B gb w A V) (hb : Below w.heap.size w w') : GX B gb w' A V :=
  ⟨h.len, fun i v hv => bsome hb (h.cell i v hv), fun i => (hb.frozen (p := ⟨gb, i, none⟩) (by have := h.lt; have := h.sz; show gb < w.heap.size; omega)).trans (h.thaw i), fun i v r hv hr => own_keep (h.own i v r hv hr) (fun g hg => hb.block g ((h.own i v r hv hr).lt g hg).2), h.apart, h.lt, Nat.le_trans h.sz hb.size⟩
theorem GX.keepX {X : Nat → Prop} {B gb : Nat} {w w' : World} {A : List (List Nat)} {V : List Value} (h : GX B gb w A V) (hb : Kx X w w') (hX : ∀ b, gb ≤ b → X b) : GX B gb w' A V :=
  ⟨h.len, fun i v hv => hb.cell (h.cell i v hv) (hX gb (Nat.le_refl _)), fun i => (hb.frozen (p := ⟨gb, i, none⟩) (by have := h.lt; have := h.sz; show gb < w.heap.size; omega) (hX gb (Nat.le_refl _))).trans (h.thaw i), fun i v r hv hr => own_keep (h.own i v r hv hr) (fun g hg => hb.block g ((h.own i v r hv hr).lt g hg).2 (hX g (by have := ((h.own i v r hv hr).lt g hg).1; have := h.lt; omega))), h.apart, h.lt, Nat.le_trans h.sz hb.size⟩
/-- An edge more. -/
theorem GX.push {B gb : Nat} {w w1 : World} {A : List (List Nat)} {V : List Value} {i x g cap : Nat} {v : Value} {r : List Nat} (h : GX B gb w A V) (hv : V[i]? = some v) (hr : A[i]? = some r)
    (hown : w1.ownsRow B 3 1 (.slice (some ⟨g, 0, none⟩) (r.length + 1) cap) (r.length + 1) (ints (up r) ++ [.int .i64 (x : Int)])) (hgrow : w.grownBy w1 v.ownBlock) (hat : v.ownBlock = some g ∨ w.heap.size ≤ g) :
    GX B gb (w1.setCell ⟨gb, i, none⟩ (.slice (some ⟨g, 0, none⟩) (r.length + 1) cap)) (A.set i (r ++ [x])) (V.set i (.slice (some ⟨g, 0, none⟩) (r.length + 1) cap)) ∧ Kx (fun b => b < gb) w (w1.setCell ⟨gb, i, none⟩ (.slice (some ⟨g, 0, none⟩) (r.length + 1) cap)) := by
  have hz := h.sz
  have hl := h.lt
  have hgs := hgrow.size
  have hiV := (List.getElem?_eq_some_iff.1 hv).1
  have hiA := (List.getElem?_eq_some_iff.1 hr).1
  have hvo := fun b (hb : v.ownBlock = some b) => ((h.own i v r hv hr).lt b hb)
  have hne : ∀ b, b < B → some b ≠ v.ownBlock := fun b hb e => by have := (hvo b e.symm).1; omega
  have hb1 : w1.heap[gb]? = w.heap[gb]? := hgrow.block gb (by omega) (hne gb hl)
  have c1 : w1.cell? ⟨gb, i, none⟩ = some v := (World.cell?_of_block (w := w) (a := ⟨gb, i, none⟩) hb1).trans (h.cell i v hv)
  have hgB := (hown.lt g rfl).1
  have hvs : ∀ (j : Nat) u, j ≠ i → V[j]? = some u → ∀ b, u.ownBlock = some b → some b ≠ v.ownBlock ∧ b ≠ g := fun j u hj hu b hb => by
    have h1 : some b ≠ v.ownBlock := fun e => hj (h.apart j i u v b hu hv hb e.symm)
    refine ⟨h1, fun e => ?_⟩
    subst e
    rcases hat with e | e
    · exact h1 e.symm
    · have hjA : j < A.length := by rw [← h.len]; exact (List.getElem?_eq_some_iff.1 hu).1
      have := ((h.own j u _ hu (List.getElem?_eq_getElem hjA)).lt b hb).2
      omega
  refine ⟨⟨by simp [h.len], fun j u hu => ?_, fun j => ?_, fun j u s hu hs => ?_, fun j k u u' b hu hu' h1 h2 => ?_, hl, by simp [World.setCell]; omega⟩, ?_⟩
  · by_cases e : j = i
    · subst e
      rw [List.getElem?_set_self hiV] at hu
      cases hu
      exact World.cell?_setCell_same _ _ _ c1
    · rw [List.getElem?_set_ne (by omega)] at hu
      rw [World.cell?_setCell_other _ _ _ _ (fun e' => by injection e' with e1 e2; omega)]
      exact (World.cell?_of_block (w := w) (a := ⟨gb, j, none⟩) hb1).trans (h.cell j u hu)
  · rw [World.frozen?_setCell]
    exact (World.frozen?_of_block (w := w) (a := ⟨gb, j, none⟩) hb1).trans (h.thaw j)
  · by_cases e : j = i
    · subst e
      rw [List.getElem?_set_self hiV] at hu
      rw [List.getElem?_set_self hiA] at hs
      cases hu
      cases hs
      rw [List.length_append, up_app, ints_app]
      refine own_keep hown (fun g' hg' => ?_)
      have e : g' = g := by simpa [Value.ownBlock] using hg'.symm
      subst e
      exact Below.heap_setCell _ _ _ _ (by show g' ≠ gb; omega)
    · rw [List.getElem?_set_ne (by omega)] at hu hs
      have ho := h.own j u s hu hs
      refine own_keep ho (fun b hb => ?_)
      have hbB := (ho.lt b hb)
      rw [Below.heap_setCell _ _ _ _ (by show b ≠ gb; omega)]
      exact hgrow.block b hbB.2 (hvs j u e hu b hb).1
  · by_cases e1 : j = i
    · subst e1
      rw [List.getElem?_set_self hiV] at hu
      cases hu
      by_cases e2 : k = j
      · exact e2.symm
      · rw [List.getElem?_set_ne (by omega)] at hu'
        have hbg : b = g := by simpa [Value.ownBlock] using h1.symm
        exact absurd hbg (hvs k u' e2 hu' b h2).2
    · rw [List.getElem?_set_ne (by omega)] at hu
      by_cases e2 : k = i
      · subst e2
        rw [List.getElem?_set_self hiV] at hu'
        cases hu'
        have hbg : b = g := by simpa [Value.ownBlock] using h2.symm
        exact absurd hbg (hvs j u e1 hu b h1).2
      · rw [List.getElem?_set_ne (by omega)] at hu'
        exact h.apart j k u u' b hu hu' h1 h2
  · exact Kx.set (X := fun b => b < gb) (p := ⟨gb, i, none⟩) (Kx.grown (X := fun b => b < gb) (Kx.refl _ w) hgrow (fun k hk => .inr (by have := (hvo k hk).1; show ¬ k < gb; omega))) (.inr (Nat.lt_irrefl gb)) _
theorem GX.gr {B gb : Nat} {w : World} {A : List (List Nat)} {V : List Value} (h : GX B gb w A V) (c : Nat) : GR w (.slice (some ⟨gb, 0, none⟩) A.length c) A := by
  refine ⟨gb, c, rfl, fun i r hr => ?_⟩
  have hi : i < V.length := by rw [h.len]; exact (List.getElem?_eq_some_iff.1 hr).1
  have hv : V[i]? = some V[i] := List.getElem?_eq_getElem hi
  have ho := h.own i _ r hv hr
  have hcell := h.cell i _ hv
  generalize V[i] = v at *
  rcases ho.2 with ⟨h1, h0⟩ | ⟨g, cap, cur, h1, -⟩
  · have e0 : r = [] := List.eq_nil_of_length_eq_zero h0
    subst e0
    exact ⟨none, 0, by rw [hcell, h1]; rfl, fun e => absurd rfl e⟩
  · refine ⟨_, cap, by rw [hcell, h1], fun _ => ⟨g, rfl, fun k x hx => ?_⟩⟩
    have := ho.cells (g := g) (by rw [h1]; rfl) k (.int .i64 (x : Int)) (by simp [ints, up, hx])
    rw [add_off] at this
    exact this
end Go.Proofs.Ytibhbbgpeckkfaa

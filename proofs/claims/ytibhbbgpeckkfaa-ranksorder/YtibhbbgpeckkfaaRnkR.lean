import Derived.Test.YtibhbbgpeckkfaaRnkQ
import Derived.BigRegion
/- Package ranks: ranks, node by node. -/
namespace Go.Proofs.Ytibhbbgpeckkfaa
open Go.RowKit

theorem up_snoc (l : List Nat) (v : Nat) : up (l ++ [v]) = up l ++ [(v : Int)] := by simp [up]
/-- What ranks keeps: the ranks, the open edges, those that are settled. -/
structure LK (w0 : World) (gr gc bo bs n : Nat) (w : World) (o r S : List Nat) (sv : Value) : Prop where
  ar : AR gr w (up r)
  ac : AR gc w (up o)
  oc : w.cell? ⟨bo, 0, none⟩ = some (.slice (some ⟨gc, 0, none⟩) n n)
  sc : w.cell? ⟨bs, 0, none⟩ = some sv
  st : w.frozen? ⟨bs, 0, none⟩ = false
  so : w.ownsRow (bs + 1) 3 1 sv S.length (ints (up S))
  n1 : w0.heap.size ≤ gr
  n2 : gr < gc
  n3 : gc < bo
  n4 : bo < bs
  sz : bs + 1 ≤ w.heap.size
  bl : Below w0.heap.size w0 w
theorem LK.push {w0 : World} {gr gc bo bs n : Nat} {w w1 : World} {o r S : List Nat} {sv : Value} {x g cap : Nat} {ob : Obj} (h : LK w0 gr gc bo bs n w o r S sv)
    (hown : w1.ownsRow (bs + 1) 3 1 (.slice (some ⟨g, 0, none⟩) (S.length + 1) cap) (S.length + 1) (ints (up S) ++ [.int .i64 (x : Int)])) (hgrow : (w.alloc ob).grownBy w1 sv.ownBlock) :
    LK w0 gr gc bo bs n (w1.setCell ⟨bs, 0, none⟩ (.slice (some ⟨g, 0, none⟩) (S.length + 1) cap)) o r (S ++ [x]) (.slice (some ⟨g, 0, none⟩) (S.length + 1) cap) := by
  have hz := h.sz
  have h1 := h.n1
  have h2 := h.n2
  have h3 := h.n3
  have h4 := h.n4
  have hgs := hgrow.size
  simp only [World.size_alloc] at hgs
  have hne : ∀ b, b ≤ bs → some b ≠ sv.ownBlock := fun b hb e => by have := (h.so.lt b e.symm).1; omega
  have hb1 : ∀ b, b ≤ bs → w1.heap[b]? = w.heap[b]? := fun b hb => (hgrow.block b (by simp; omega) (hne b hb)).trans (Below.heap_alloc _ _ _ (by omega))
  have hb2 : ∀ b, b < bs → (w1.setCell ⟨bs, 0, none⟩ (.slice (some ⟨g, 0, none⟩) (S.length + 1) cap)).heap[b]? = w.heap[b]? := fun b hb => (Below.heap_setCell _ _ _ _ (by show b ≠ bs; omega)).trans (hb1 b (by omega))
  have hsz : w.heap.size ≤ (w1.setCell ⟨bs, 0, none⟩ (.slice (some ⟨g, 0, none⟩) (S.length + 1) cap)).heap.size := by simp [World.setCell]; omega
  have c1 : w1.cell? ⟨bs, 0, none⟩ = some sv := (World.cell?_of_block (w := w) (a := ⟨bs, 0, none⟩) (hb1 bs (Nat.le_refl _))).trans h.sc
  have f1 : w1.frozen? ⟨bs, 0, none⟩ = false := (World.frozen?_of_block (w := w) (a := ⟨bs, 0, none⟩) (hb1 bs (Nat.le_refl _))).trans h.st
  have hgb := (hown.lt g rfl).1
  refine ⟨h.ar.keep (hb2 gr (by omega)) hsz, h.ac.keep (hb2 gc (by omega)) hsz, (World.cell?_of_block (w := w) (a := ⟨bo, 0, none⟩) (hb2 bo h4)).trans h.oc, by simp [go_sem, c1], by simp [go_sem, f1], ?_, h1, h2, h3, h4, by omega, ?_⟩
  · rw [List.length_append, up_snoc, ints_app]
    refine own_keep hown (fun g' hg' => ?_)
    have e : g' = g := by simpa [Value.ownBlock] using hg'.symm
    subst e
    exact Below.heap_setCell _ _ _ _ (by show g' ≠ bs; omega)
  · exact ((h.bl.alloc (by omega) ob).grown hgrow (by simp; omega) (fun j hj => by have := (h.so.lt j hj).1; omega)).setCell (p := ⟨bs, 0, none⟩) (by show w0.heap.size ≤ bs; omega) _
theorem LK.drewN {w0 : World} {gr gc bo bs n : Nat} {w : World} {o r S : List Nat} {sv : Value} (h : LK w0 gr gc bo bs n w o r S sv) (k : Nat) : LK w0 gr gc bo bs n (w.drewN k) o r S sv :=
  ⟨h.ar.keep rfl (Nat.le_refl _), h.ac.keep rfl (Nat.le_refl _), h.oc, h.sc, h.st, own_keep h.so (fun _ _ => rfl), h.n1, h.n2, h.n3, h.n4, h.sz, below_drewN h.bl k⟩
/-- A rank is set. -/
theorem LK.rank {w0 : World} {gr gc bo bs n : Nat} {w : World} {o r S : List Nat} {sv : Value} (h : LK w0 gr gc bo bs n w o r S sv) {t : Nat} (ht : t < r.length) (x : Nat) : LK w0 gr gc bo bs n (w.setCell ⟨gr, t, none⟩ (.int .i64 (x : Int))) o (r.set t x) S sv := by
  have h1 := h.n1
  have h2 := h.n2
  have h3 := h.n3
  have h4 := h.n4
  have hb : ∀ b, b ≠ gr → (w.setCell ⟨gr, t, none⟩ (.int .i64 (x : Int))).heap[b]? = w.heap[b]? := fun b hb => Below.heap_setCell _ _ _ _ hb
  refine ⟨?_, h.ac.keep (hb gc (by omega)) (by simp [World.setCell]), (World.cell?_of_block (w := w) (a := ⟨bo, 0, none⟩) (hb bo (by omega))).trans h.oc, (World.cell?_of_block (w := w) (a := ⟨bs, 0, none⟩) (hb bs (by omega))).trans h.sc, (World.frozen?_of_block (w := w) (a := ⟨bs, 0, none⟩) (hb bs (by omega))).trans h.st, own_keep h.so (fun g hg => hb g (by have := (h.so.lt g hg).1; omega)), h1, h2, h3, h4, by simpa [World.setCell] using h.sz, h.bl.setCell (p := ⟨gr, t, none⟩) h1 _⟩
  have := h.ar.set (up_g ht) ((x : Nat) : Int)
  rw [up_set] at this
  exact this
/-- An open edge less. -/
theorem LK.open {w0 : World} {gr gc bo bs n : Nat} {w : World} {o r S : List Nat} {sv : Value} (h : LK w0 gr gc bo bs n w o r S sv) {t : Nat} (ht : t < o.length) (x : Nat) : LK w0 gr gc bo bs n (w.setCell ⟨gc, t, none⟩ (.int .i64 (x : Int))) (o.set t x) r S sv := by
  have h1 := h.n1
  have h2 := h.n2
  have h3 := h.n3
  have h4 := h.n4
  have hb : ∀ b, b ≠ gc → (w.setCell ⟨gc, t, none⟩ (.int .i64 (x : Int))).heap[b]? = w.heap[b]? := fun b hb => Below.heap_setCell _ _ _ _ hb
  refine ⟨h.ar.keep (hb gr (by omega)) (by simp [World.setCell]), ?_, (World.cell?_of_block (w := w) (a := ⟨bo, 0, none⟩) (hb bo (by omega))).trans h.oc, (World.cell?_of_block (w := w) (a := ⟨bs, 0, none⟩) (hb bs (by omega))).trans h.sc, (World.frozen?_of_block (w := w) (a := ⟨bs, 0, none⟩) (hb bs (by omega))).trans h.st, own_keep h.so (fun g hg => hb g (by have := (h.so.lt g hg).1; omega)), h1, h2, h3, h4, by simpa [World.setCell] using h.sz, h.bl.setCell (p := ⟨gc, t, none⟩) (by show w0.heap.size ≤ gc; omega) _⟩
  have := h.ac.set (up_g ht) ((x : Nat) : Int)
  rw [up_set] at this
  exact this

set_option maxRecDepth 100000 in
set_option maxHeartbeats 1000000 in
theorem look_any (w0 : World) (gr gc bo bs n : Nat) (w : World) (o r S : List Nat) (sv : Value) (t : Nat) (h : LK w0 gr gc bo bs n w o r S sv) (ho : o.length = n) (ht : t < n) (hl : S.length ≤ 1000) :
    Calls Try.prog 28 #[.int .i64 t, .pointer (some ⟨bo, 0, none⟩), .pointer (some ⟨bs, 0, none⟩)] w fun e w' => e = .returned (.tuple #[]) ∧ ∃ sv', LK w0 gr gc bo bs n w' o r (if Rk.g o t = 0 then S ++ [t] else S) sv' := by
  obtain ⟨i0, hi, hz0, hz1, hz2⟩ := info_parts Try.info3
  have c0 := h.oc
  have c1 := h.ac.cell _ _ (up_g (o := o) (v := t) (by omega))
  have c2 := h.sc
  have f2 := h.st
  have hz := h.sz
  have H := hide h
  have hul : (up S).length = S.length := up_len S
  have HU := hide hul
  have p0 : (0 : Int) ≤ (t : Int) := by omega
  have p1 : (t : Int) < (n : Int) := by omega
  clear h hul
  by_cases h0 : Rk.g o t = 0
  · rw [if_pos h0]
    rw [h0] at c1
    have HZ := hide h0
    clear h0
    go_enter Try.func28, Try.ntmps28
    go_wp2_with (at_builtin; refine wpList_append_lies _ rfl _ _ 27 rfl (bs + 1) 3 i0 (.int .i64 0) 1 8 Try.underlying27 hi hz0 hz1 hz2 rfl (by decide) _ _ _ rfl (H.out.so.alloc _) ⟨w.heap.size, 0, none⟩ 1 1 [.int .i64 (t : Int)] rfl rfl ?c1 ?c2 ?c3 ?c4 ?c5 ?c6 _ rfl ?_)
    case c1 => exact cell_one_new _ _ _
    case c2 => intro u hu; simp at hu; subst hu; rfl
    case c3 => decide
    case c4 => unfold maxLen; omega
    case c5 => omega
    case c6 => simp; omega
    intro g cap w1 hown hgrow hat hlt
    have R := hide (H.out.push hown hgrow)
    have hne : some bs ≠ sv.ownBlock := fun e => by have := (H.out.so.lt bs e.symm).1; omega
    have hb1 : w1.heap[bs]? = w.heap[bs]? := (hgrow.block bs (by simp; omega) hne).trans (Below.heap_alloc _ _ _ (by omega))
    have d1 : w1.cell? ⟨bs, 0, none⟩ = some sv := (World.cell?_of_block (w := w) (a := ⟨bs, 0, none⟩) hb1).trans c2
    have d2 : w1.frozen? ⟨bs, 0, none⟩ = false := (World.frozen?_of_block (w := w) (a := ⟨bs, 0, none⟩) hb1).trans f2
    clear hown hgrow hat hb1 hne
    go_wp2
    go_end0
    exact ⟨rfl, _, R.out⟩
  · rw [if_neg h0]
    have b0 : (((Rk.g o t : Nat) : Int) == 0) = false := by simp; omega
    go_enter Try.func28, Try.ntmps28
    go_wp2
    go_end0
    exact ⟨rfl, _, H.out⟩
end Go.Proofs.Ytibhbbgpeckkfaa

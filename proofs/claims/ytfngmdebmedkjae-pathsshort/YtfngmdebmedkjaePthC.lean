import Derived.Test.YtfngmdebmedkjaePthB
/- The functions that are handed what comes: what each keeps of it. -/
namespace Go.Proofs.Ytfngmdebmedkjae
open Go.RowKit

/-- A row of numbers of one's own, in a variable of one's own. -/
structure VR (B b : Nat) (X : Nat → Prop) (w : World) (l : List Int) (v : Value) : Prop where
  cell : w.cell? ⟨b, 0, none⟩ = some v
  thaw : w.frozen? ⟨b, 0, none⟩ = false
  own : w.ownsRow B 3 1 v l.length (ints l)
  lt : B ≤ w.heap.size
  nb : ¬ X b
  ng : ∀ g, v.ownBlock = some g → ¬ X g ∧ g ≠ b
  few : ∀ k, X k → k < w.heap.size
theorem VR.blt {B b : Nat} {X : Nat → Prop} {w : World} {l : List Int} {v : Value} (h : VR B b X w l v) : b < w.heap.size := World.block_lt_of_cell? _ _ h.cell
theorem own_keep {B : Nat} {w w' : World} {v : Value} {n : Nat} {xs : List Value} (h : w.ownsRow B 3 1 v n xs) (hk : ∀ g, v.ownBlock = some g → w'.heap[g]? = w.heap[g]?) : w'.ownsRow B 3 1 v n xs := by
  refine ⟨h.1, ?_⟩
  rcases h.2 with h | ⟨g, cap, cur, hv, hb, hg, rest⟩
  · exact .inl h
  · exact .inr ⟨g, cap, cur, hv, hb, by rw [hk g (by rw [hv]; rfl)]; exact hg, rest⟩
theorem VR.grow {B b : Nat} {X : Nat → Prop} {w1 w2 : World} {l : List Int} {v : Value} (h : VR B b X w1 l v) (hb : Below w1.heap.size w1 w2) : VR B b (fun k => X k ∨ (w1.heap.size ≤ k ∧ k < w2.heap.size)) w2 l v := by
  have hbl := h.blt
  have hs := hb.size
  refine ⟨bsome hb h.cell, (hb.frozen (p := ⟨b, 0, none⟩) hbl).trans h.thaw, own_keep h.own (fun g hg => hb.block g (h.own.lt g hg).2), Nat.le_trans h.lt hs, ?_, fun g hg => ⟨?_, (h.ng g hg).2⟩, ?_⟩
  · rintro (hx | hx)
    · exact h.nb hx
    · omega
  · rintro (hx | hx)
    · exact (h.ng g hg).1 hx
    · have := (h.own.lt g hg).2; omega
  · rintro k (hx | hx)
    · have := h.few k hx; omega
    · exact hx.2
theorem VR.less {B b : Nat} {X Y : Nat → Prop} {w : World} {l : List Int} {v : Value} (h : VR B b X w l v) (hy : ∀ k, Y k → X k) : VR B b Y w l v :=
  ⟨h.cell, h.thaw, h.own, h.lt, fun hx => h.nb (hy _ hx), fun g hg => ⟨fun hx => (h.ng g hg).1 (hy _ hx), (h.ng g hg).2⟩, fun k hx => h.few k (hy k hx)⟩
/-- An append to such a row, and what is stored then. -/
theorem VR.push {B b : Nat} {X : Nat → Prop} {w w1 : World} {l : List Int} {v : Value} {x : Int} {g cap : Nat} {o : Obj} (h : VR B b X w l v)
    (hown : w1.ownsRow B 3 1 (.slice (some ⟨g, 0, none⟩) (l.length + 1) cap) (l.length + 1) (ints l ++ [.int .i64 x])) (hgrow : (w.alloc o).grownBy w1 v.ownBlock) (hat : v.ownBlock = some g ∨ g = w.heap.size + 1) (hlt : g < w1.heap.size) :
    VR B b X (w1.setCell ⟨b, 0, none⟩ (.slice (some ⟨g, 0, none⟩) (l.length + 1) cap)) (l ++ [x]) (.slice (some ⟨g, 0, none⟩) (l.length + 1) cap) ∧ Kx X w (w1.setCell ⟨b, 0, none⟩ (.slice (some ⟨g, 0, none⟩) (l.length + 1) cap)) := by
  have hbl := h.blt
  have hgs := hgrow.size
  simp only [World.size_alloc] at hgs
  have hne : some b ≠ v.ownBlock := fun e => (h.ng b e.symm).2 rfl
  have hgb : g ≠ b := by
    rcases hat with e | e
    · exact (h.ng g e).2
    · omega
  have hb1 : w1.heap[b]? = w.heap[b]? := (hgrow.block b (by simp; omega) hne).trans (Below.heap_alloc _ _ _ hbl)
  have c1 : w1.cell? ⟨b, 0, none⟩ = some v := (World.cell?_of_block (w := w) (a := ⟨b, 0, none⟩) hb1).trans h.cell
  have f1 : w1.frozen? ⟨b, 0, none⟩ = false := (World.frozen?_of_block (w := w) (a := ⟨b, 0, none⟩) hb1).trans h.thaw
  refine ⟨⟨?_, ?_, ?_, ?_, h.nb, fun g' hg' => ?_, fun k hk => ?_⟩, ?_⟩
  · simp [go_sem, c1]
  · simp [go_sem, f1]
  · rw [List.length_append, ints_app]
    refine own_keep hown (fun g' hg' => ?_)
    have e : g' = g := by simpa [Value.ownBlock] using hg'.symm
    subst e
    exact Below.heap_setCell _ _ _ _ (by simpa using hgb)
  · have := h.lt; simp [World.setCell]; omega
  · have e : g' = g := by simpa [Value.ownBlock] using hg'.symm
    subst e
    refine ⟨?_, hgb⟩
    rcases hat with e | e
    · exact (h.ng _ e).1
    · intro hx
      have := h.few _ hx
      omega
  · have := h.few k hk; simp [World.setCell]; omega
  · refine Kx.set (Kx.grown ((Kx.refl X w).alloc o) hgrow (fun k hk => ?_)) (.inr h.nb) _
    exact .inr (h.ng k hk).1

set_option maxHeartbeats 1000000 in
theorem nextC_any (B b : Nat) (X : Nat → Prop) (w : World) (l : List Int) (v : Value) (x : Int) (h : VR B b X w l v) (hl : l.length ≤ 1000000) :
    Calls Try.prog 20 #[.int .i64 x, .pointer (some ⟨b, 0, none⟩)] w fun e w' => e = .returned (.tuple #[]) ∧ (∃ v', VR B b X w' (l ++ [x]) v') ∧ Kx X w w' := by
  obtain ⟨i0, hi, hz0, hz1, hz2⟩ := info_parts Try.info3
  have H := hide h
  have c0 := h.cell
  have hbl := h.blt
  have hlt0 := h.lt
  clear h
  go_enter Try.func20, Try.ntmps20
  go_wp2_with (at_builtin; refine wpList_append_lies _ rfl _ _ 30 rfl B 3 i0 (.int .i64 0) 1 8 Try.underlying30 hi hz0 hz1 hz2 rfl (by decide) _ _ _ rfl (H.out.own.alloc _) ⟨w.heap.size, 0, none⟩ 1 1 [.int .i64 x] rfl rfl ?c1 ?c2 ?c3 ?c4 ?c5 ?c6 _ rfl ?_)
  case c1 => exact cell_one_new _ _ _
  case c2 => intro u hu; simp at hu; subst hu; rfl
  case c3 => decide
  case c4 => unfold maxLen; omega
  case c5 => omega
  case c6 => simp; omega
  intro g cap w1 hown hgrow hat hlt
  have R := hide (H.out.push hown hgrow (by simpa using hat) hlt)
  have hne : some b ≠ v.ownBlock := fun e => (H.out.ng b e.symm).2 rfl
  have hb1 : w1.heap[b]? = w.heap[b]? := (hgrow.block b (by simp; omega) hne).trans (Below.heap_alloc _ _ _ hbl)
  have c1 : w1.cell? ⟨b, 0, none⟩ = some v := (World.cell?_of_block (w := w) (a := ⟨b, 0, none⟩) hb1).trans c0
  have f1 : w1.frozen? ⟨b, 0, none⟩ = false := (World.frozen?_of_block (w := w) (a := ⟨b, 0, none⟩) hb1).trans H.out.thaw
  clear hown hgrow hat hb1 hne
  go_wp2
  go_end0
  exact ⟨rfl, ⟨_, R.out.1⟩, R.out.2⟩
end Go.Proofs.Ytfngmdebmedkjae

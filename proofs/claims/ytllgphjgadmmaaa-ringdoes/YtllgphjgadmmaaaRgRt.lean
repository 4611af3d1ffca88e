import Derived.Test.YtllgphjgadmmaaaRgS
import Derived.Test.YtllgphjgadmmaaaRgP
import Derived.Laws.CopyOwn
import Derived.BigRegion
import Derived.Deep.RegionHeldLaw
/- Package ring, as it landed, of texts: a ring in memory, what each call does. -/
namespace Go.Proofs.Ytllgphjgadmmaaa
open Go.RowKit

theorem Try.infot : (Try.prog.info? 9).map (fun i => (i.zero, i.size, i.bytes)) = some (some (.string ⟨#[]⟩), 1, 16) := by kernel_rfl
theorem Try.sizet : (Try.prog.info? 9).map (·.size) = some 1 := by kernel_rfl
/-- The cells of a row. -/
def cst (C : List ByteArray) : List Value := C.map fun x => Value.string x
theorem cst_len (C : List ByteArray) : (cst C).length = C.length := by simp [cst]
theorem cst_get {C : List ByteArray} {k : Nat} {x : ByteArray} (h : C[k]? = some x) : (cst C)[k]? = some (.string x) := by simp [cst, h]
theorem cst_one (C : List ByteArray) : ∀ u ∈ cst C, u.oneCell' = true := fun u hu => by
  obtain ⟨x, -, rfl⟩ := List.mem_map.1 hu
  rfl
/-- A ring's four cells, and its row. -/
structure RBt (w : World) (p s : Nat) (C : List ByteArray) (cv : Value) (f m : Nat) : Prop where
  box : ∃ t, w.heap[p]? = some (.cells #[.int .i64 (s : Int), cv, .int .i64 (f : Int), .int .i64 (m : Int)] t (0, 0))
  row : (C = [] ∧ cv = .slice none 0 0 ∧ f = 0) ∨ ∃ g, cv = .slice (some ⟨g, 0, none⟩) C.length C.length ∧ g ≠ p ∧ w.heap[g]? = some (.cells (cst C).toArray 9 (0, 0)) ∧ f < C.length
section
variable {w w' : World} {p s : Nat} {C : List ByteArray} {cv : Value} {f m : Nat}
theorem RBt.lt (h : RBt w p s C cv f m) : p < w.heap.size := by
  obtain ⟨t, h⟩ := h.box
  exact (Array.getElem?_eq_some_iff.1 h).1
theorem RBt.own (h : RBt w p s C cv f m) {b : Nat} (hb : cv.ownBlock = some b) : b < w.heap.size ∧ b ≠ p := by
  rcases h.row with ⟨-, rfl, -⟩ | ⟨g, rfl, h1, h2, -⟩
  · cases hb
  · have e : b = g := by simpa [Value.ownBlock] using hb.symm
    subst e
    exact ⟨(Array.getElem?_eq_some_iff.1 h2).1, h1⟩
theorem RBt.keep (h : RBt w p s C cv f m) (h1 : w'.heap[p]? = w.heap[p]?) (h2 : ∀ b, cv.ownBlock = some b → w'.heap[b]? = w.heap[b]?) : RBt w' p s C cv f m := by
  obtain ⟨t, hb⟩ := h.box
  refine ⟨⟨t, h1.trans hb⟩, ?_⟩
  rcases h.row with h3 | ⟨g, rfl, h3, h4, h5⟩
  · exact .inl h3
  · exact .inr ⟨g, rfl, h3, (h2 g rfl).trans h4, h5⟩
theorem RBt.below (h : RBt w p s C cv f m) (hb : Below w.heap.size w w') : RBt w' p s C cv f m :=
  h.keep (hb.block _ h.lt) (fun b hb' => hb.block b (h.own hb').1)
theorem RBt.c0 (h : RBt w p s C cv f m) : w.cell? ⟨p, 0, none⟩ = some (.int .i64 (s : Int)) := by
  obtain ⟨t, h⟩ := h.box
  simp [World.cell?, h]
theorem RBt.c1 (h : RBt w p s C cv f m) : w.cell? ⟨p, 1, none⟩ = some cv := by
  obtain ⟨t, h⟩ := h.box
  simp [World.cell?, h]
theorem RBt.c2 (h : RBt w p s C cv f m) : w.cell? ⟨p, 2, none⟩ = some (.int .i64 (f : Int)) := by
  obtain ⟨t, h⟩ := h.box
  simp [World.cell?, h]
theorem RBt.c3 (h : RBt w p s C cv f m) : w.cell? ⟨p, 3, none⟩ = some (.int .i64 (m : Int)) := by
  obtain ⟨t, h⟩ := h.box
  simp [World.cell?, h]
theorem RBt.fz (h : RBt w p s C cv f m) (k : Nat) : w.frozen? ⟨p, k, none⟩ = false := by
  obtain ⟨t, h⟩ := h.box
  simp [World.frozen?, h]
/-- One of its numbers is set. -/
theorem RBt.setF (h : RBt w p s C cv f m) (f' : Nat) (hf : f' < C.length ∨ f' = f) : RBt (w.setCell ⟨p, 2, none⟩ (.int .i64 (f' : Int))) p s C cv f' m := by
  obtain ⟨t, hb⟩ := h.box
  refine ⟨⟨t, by rw [heap_setCell_at hb]; rfl⟩, ?_⟩
  rcases h.row with ⟨h1, h2, h3⟩ | ⟨g, h2, h3, h4, h5⟩
  · exact .inl ⟨h1, h2, by
      subst h1
      rcases hf with hf | hf
      · cases hf
      · exact hf.trans h3⟩
  · exact .inr ⟨g, h2, h3, (Below.heap_setCell _ _ _ _ h3).trans h4, by omega⟩
theorem RBt.setM (h : RBt w p s C cv f m) (m' : Nat) : RBt (w.setCell ⟨p, 3, none⟩ (.int .i64 (m' : Int))) p s C cv f m' := by
  obtain ⟨t, hb⟩ := h.box
  refine ⟨⟨t, by rw [heap_setCell_at hb]; rfl⟩, ?_⟩
  rcases h.row with h1 | ⟨g, h2, h3, h4, h5⟩
  · exact .inl h1
  · exact .inr ⟨g, h2, h3, (Below.heap_setCell _ _ _ _ h3).trans h4, h5⟩
/-- Another row, from its head on. -/
theorem RBt.setC (h : RBt w p s C cv f m) {C' : List ByteArray} {g : Nat} (hg : w.heap[g]? = some (.cells (cst C').toArray 9 (0, 0))) (hn : g ≠ p) (h0 : 0 < C'.length) :
    RBt ((w.setCell ⟨p, 1, none⟩ (.slice (some ⟨g, 0, none⟩) C'.length C'.length)).setCell ⟨p, 2, none⟩ (.int .i64 0)) p s C' (.slice (some ⟨g, 0, none⟩) C'.length C'.length) 0 m := by
  obtain ⟨t, hb⟩ := h.box
  refine ⟨⟨t, ?_⟩, .inr ⟨g, rfl, hn, ?_, h0⟩⟩
  · rw [heap_setCell_at (heap_setCell_at hb _)]
    rfl
  · exact (Below.heap_setCell _ _ _ _ hn).trans ((Below.heap_setCell _ _ _ _ hn).trans hg)
/-- None at all. -/
theorem RBt.clr (h : RBt w p s C cv f m) : RBt (((w.setCell ⟨p, 1, none⟩ (.slice none 0 0)).setCell ⟨p, 2, none⟩ (.int .i64 0)).setCell ⟨p, 3, none⟩ (.int .i64 0)) p s [] (.slice none 0 0) 0 0 := by
  obtain ⟨t, hb⟩ := h.box
  refine ⟨⟨t, ?_⟩, .inl ⟨rfl, rfl, rfl⟩⟩
  rw [heap_setCell_at (heap_setCell_at (heap_setCell_at hb _) _)]
  rfl
/-- A thing of its row is set. -/
theorem RBt.setX (h : RBt w p s C cv f m) {g : Nat} (hv : cv.ownBlock = some g) (k : Nat) (x : ByteArray) : RBt (w.setCell ⟨g, k, none⟩ (.string x)) p s (C.set k x) cv f m := by
  obtain ⟨t, hb⟩ := h.box
  rcases h.row with ⟨-, rfl, -⟩ | ⟨g', rfl, h3, h4, h5⟩
  · cases hv
  · have e : g = g' := by simpa [Value.ownBlock] using hv.symm
    subst e
    refine ⟨⟨t, (Below.heap_setCell _ _ _ _ (fun e => h3 e.symm)).trans hb⟩, .inr ⟨g, by rw [List.length_set], h3, ?_, by rw [List.length_set]; exact h5⟩⟩
    rw [heap_setCell_at h4]
    congr 2
    simp [cst, List.map_set]
theorem RBt.rc (h : RBt w p s C cv f m) {g : Nat} (hv : cv.ownBlock = some g) {k : Nat} {x : ByteArray} (hx : C[k]? = some x) : w.cell? ⟨g, k, none⟩ = some (.string x) := by
  rcases h.row with ⟨-, rfl, -⟩ | ⟨g', rfl, h3, h4, h5⟩
  · cases hv
  · have e : g = g' := by simpa [Value.ownBlock] using hv.symm
    subst e
    rw [cell_of_row _ _ _ _ _ _ h4]
    simpa using cst_get hx
theorem RBt.rz (h : RBt w p s C cv f m) {g : Nat} (hv : cv.ownBlock = some g) (k : Nat) : w.frozen? ⟨g, k, none⟩ = false := by
  rcases h.row with ⟨-, rfl, -⟩ | ⟨g', rfl, h3, h4, h5⟩
  · cases hv
  · have e : g = g' := by simpa [Value.ownBlock] using hv.symm
    subst e
    simp [World.frozen?, h4]
end
theorem madet (n : Nat) (hn : n ≤ 4000) : ∀ w : World, (Instr.makeSlice 39 (.int .i64 (n : Int)) (.int .i64 (n : Int))).run Try.prog w = .ok (.slice (some ⟨w.heap.size, 0, none⟩) n n) (w.alloc (.cells (cst (List.replicate n ⟨#[]⟩)).toArray 9)) := by
  intro w
  obtain ⟨i0, hi, hz0, hz1, hz2⟩ := info_parts Try.infot
  have := run_make (P := Try.prog) w 39 9 i0 (.string ⟨#[]⟩) Try.underlying39 hi hz0 .i64 .i64 (n : Int) (n : Int) (by omega) (Int.le_refl _) (by rw [hz2]; omega) (by omega)
  rw [hz1] at this
  have e : madeCells #[Value.string ⟨#[]⟩] n = (cst (List.replicate n ⟨#[]⟩)).toArray := by
    unfold madeCells cst
    apply Array.ext_getElem?
    intro k
    simp only [Array.getElem?_map, List.getElem?_toArray, List.map_replicate, List.getElem?_replicate]
    by_cases hk : k < n
    · simp [hk, Nat.mod_one]
    · simp [hk]
  rw [← e]
  simpa [Value.cells] using this
/-- A ring: what it holds stands in its row, from the first thing on and round. -/
def RIt (F : Nat → Prop) (w : World) (p s : Nat) (M : List ByteArray) : Prop :=
  ∃ C cv f, RBt w p s C cv f M.length ∧ M.length ≤ C.length ∧ C.length ≤ 2000 ∧ (0 < s → C.length ≤ s) ∧ (∀ (k : Nat) x, M[k]? = some x → C[(f + k) % C.length]? = some x) ∧ ∀ b, F b ↔ (b = p ∨ cv.ownBlock = some b)
theorem RIt.lt {F : Nat → Prop} {w : World} {p s : Nat} {M : List ByteArray} (h : RIt F w p s M) : ∀ b, F b → b < w.heap.size := by
  obtain ⟨C, cv, f, h1, -, -, -, -, hF⟩ := h
  intro b hb
  rcases (hF b).1 hb with rfl | hb
  · exact h1.lt
  · exact (h1.own hb).1
theorem RIt.keep {F : Nat → Prop} {w w' : World} {p s : Nat} {M : List ByteArray} (h : RIt F w p s M) (hk : Kx F w w') : RIt F w' p s M := by
  have hlt := h.lt
  obtain ⟨C, cv, f, h1, h2, h3, h4, h5, hF⟩ := h
  exact ⟨C, cv, f, h1.keep (hk.block p h1.lt ((hF p).2 (.inl rfl))) (fun b hb => hk.block b (h1.own hb).1 ((hF b).2 (.inr hb))), h2, h3, h4, h5, hF⟩
theorem RIt.fresh (w : World) (n : Nat) (t : TypeId) : RIt (fun b => b = w.heap.size) (w.alloc (.cells #[.int .i64 (n : Int), .slice none 0 0, .int .i64 0, .int .i64 0] t)) w.heap.size n [] := by
  refine ⟨[], .slice none 0 0, 0, ⟨⟨t, heap_alloc_new w _⟩, .inl ⟨rfl, rfl, rfl⟩⟩, Nat.le_refl _, by simp, by simp, fun k x h => by simp at h, fun b => ⟨.inl, fun h => ?_⟩⟩
  rcases h with h | h
  · exact h
  · cases h
set_option maxRecDepth 100000 in
set_option maxHeartbeats 1000000 in
theorem newt (n : Int) (w : World) : Calls Try.prog 15 #[.int .i64 n] w fun e w' => ∃ (p : Nat) (F : Nat → Prop), e = .returned (.pointer (some ⟨p, 0, none⟩)) ∧ RIt F w' p n.toNat [] ∧ Below w.heap.size w w' ∧ ∀ b, F b → w.heap.size ≤ b := by
  obtain ⟨m, hm⟩ : ∃ m : Nat, n.toNat = m := ⟨_, rfl⟩
  rw [hm]
  by_cases h : 0 ≤ n
  · obtain rfl : n = (m : Int) := by omega
    clear hm
    go_enter Try.func15, Try.ntmps15
    go_wp2
    go_ret
    first
      | exact ⟨_, rfl, _, RIt.fresh w m _, (Below.refl _ _).alloc (Nat.le_refl _) _, fun b hb => by rw [hb]; exact Nat.le_refl _⟩
      | exact ⟨_, _, rfl, RIt.fresh w m _, (Below.refl _ _).alloc (Nat.le_refl _) _, fun b hb => by rw [hb]; exact Nat.le_refl _⟩
  · obtain rfl : m = 0 := by omega
    have h' : ¬ 0 ≤ n := h
    have h2 : n < 0 := by omega
    have hmx : max n 0 = 0 := by omega
    clear hm
    go_enter Try.func15, Try.ntmps15
    go_wp2
    go_ret
    first
      | exact ⟨_, rfl, _, RIt.fresh w 0 _, (Below.refl _ _).alloc (Nat.le_refl _) _, fun b hb => by rw [hb]; exact Nat.le_refl _⟩
      | exact ⟨_, _, rfl, RIt.fresh w 0 _, (Below.refl _ _).alloc (Nat.le_refl _) _, fun b hb => by rw [hb]; exact Nat.le_refl _⟩
set_option maxRecDepth 100000 in
set_option maxHeartbeats 1000000 in
theorem lent {F : Nat → Prop} {w : World} {p s : Nat} {M : List ByteArray} (h : RIt F w p s M) : Calls Try.prog 17 #[.pointer (some ⟨p, 0, none⟩)] w fun e w' => e = .returned (.int .i64 (M.length : Int)) ∧ w' = w := by
  obtain ⟨C, cv, f, h1, -⟩ := h
  have c3 := h1.c3
  clear h1
  go_enter Try.func17, Try.ntmps17
  go_wp2
  go_ret
  exact ⟨rfl, rfl⟩
set_option maxRecDepth 100000 in
set_option maxHeartbeats 1000000 in
theorem fullt {w : World} {p s : Nat} {C : List ByteArray} {cv : Value} {f m : Nat} (h1 : RBt w p s C cv f m) (b : Bool) (hb : b = (decide (0 < s) && decide (m = s))) : Calls Try.prog 22 #[.pointer (some ⟨p, 0, none⟩)] w fun e w' => e = .returned (.bool b) ∧ ∃ n, w' = w.drewN n := by
  have c0 := h1.c0
  have c3 := h1.c3
  clear h1
  by_cases hs : 0 < s
  · have d1 : decide ((0 : Int) < (s : Int)) = true := by simpa using hs
    have d3 : decide (0 < s) = true := by simpa using hs
    have d2 : ((m : Int) == (s : Int)) = b := by
      rw [hb, decide_eq_true hs, Bool.true_and]
      by_cases e : m = s
      · subst e; simp
      · rw [decide_eq_false e]; simp; omega
    clear hb hs
    go_enter Try.func22, Try.ntmps22
    go_wp2
    go_quiet (fail)
    go_wp2
    go_ret
    exact ⟨rfl, _, rfl⟩
  · obtain rfl : s = 0 := by omega
    obtain rfl : b = false := by rw [hb]; rfl
    clear hb hs
    go_enter Try.func22, Try.ntmps22
    go_wp2
    go_quiet (fail)
    go_wp2
    go_ret
    exact ⟨rfl, _, rfl⟩
theorem srct {w : World} {g o : Nat} {C : List ByteArray} (h : w.heap[g]? = some (.cells (cst C).toArray 9 (0, 0))) (L : List ByteArray) (hL : ∀ (k : Nat) x, L[k]? = some x → C[o + k]? = some x) : ∀ j v, (cst L)[j]? = some v → w.cell? ((⟨g, o, none⟩ : Addr).add j) = some v := by
  intro j v hv
  rw [add_at, cell_of_row _ _ _ _ _ _ h]
  simp only [cst, List.getElem?_map, Option.map_eq_some_iff] at hv
  obtain ⟨x, hx, rfl⟩ := hv
  simpa using cst_get (hL j x hx)
set_option maxRecDepth 100000 in
set_option maxHeartbeats 1000000 in
/-- A new row of so many cells. -/
theorem rowt {w : World} {p s : Nat} {C : List ByteArray} {cv : Value} {f m : Nat} (h1 : RBt w p s C cv f m) (hC : C.length ≤ 2000) (n : Nat) (hn : n ≤ 4000) : Calls Try.prog 24 #[.pointer (some ⟨p, 0, none⟩), .int .i64 (n : Int)] w fun e w' => e = .returned (.slice (some ⟨w.heap.size, 0, none⟩) n n) ∧ w'.heap[w.heap.size]? = some (.cells (cst (rowOf ⟨#[]⟩ C f n)).toArray 9 (0, 0)) ∧ Below w.heap.size w w' := by
  have hmk := madet n hn
  obtain ⟨Z, hZ⟩ : ∃ Z, Z = cst (List.replicate n ⟨#[]⟩) := ⟨_, rfl⟩
  rw [← hZ] at hmk
  have hZl : Z.length = n := by rw [hZ, cst_len, List.length_replicate]
  obtain ⟨X1, hX1⟩ : ∃ X1, X1 = (C.drop f).take n := ⟨_, rfl⟩
  obtain ⟨X2, hX2⟩ : ∃ X2, X2 = (C.take f).take (n - X1.length) := ⟨_, rfl⟩
  have HE : Hid (cst (rowOf ⟨#[]⟩ C f n) = splice (splice Z 0 (cst X1)) X1.length (cst X2)) := hide (by
    rw [hZ, hX2, hX1]
    unfold rowOf cst
    rw [map_splice, map_splice])
  have hl1 : X1.length = Nat.min (C.length - f) n := by rw [hX1, List.length_take, List.length_drop]; exact Nat.min_comm _ _
  have hl2 : X2.length = Nat.min f (n - X1.length) := by
    rw [hX2, List.length_take, List.length_take]
    rcases h1.row with ⟨rfl, rfl, rfl⟩ | ⟨g, -, -, -, hf⟩
    · simp
    · show min _ (min _ _) = min _ _
      omega
  rcases h1.row with ⟨rfl, rfl, rfl⟩ | ⟨g, rfl, hgp, hg, hf⟩
  · have HG0 : Hid ((w.alloc (.cells Z.toArray 9)).heap[w.heap.size]? = some (.cells Z.toArray 9 (0, 0))) := hide (heap_alloc_new w _)
    have hb0 : Below w.heap.size w (w.alloc (.cells Z.toArray 9)) := (Below.refl _ _).alloc (Nat.le_refl _) _
    obtain ⟨W, hW⟩ : ∃ W, w.alloc (.cells Z.toArray 9) = W := ⟨_, rfl⟩
    have hmk' := hmk w
    rw [hW] at HG0 hb0 hmk'
    have hr := h1.below hb0
    have c1 := hr.c1
    have c2 : W.cell? ⟨p, 2, none⟩ = some (.int .i64 0) := hr.c2
    have HC1 := hide h1.c1
    have HC2 : Hid (w.cell? ⟨p, 2, none⟩ = some (.int .i64 0)) := hide h1.c2
    have HB0 := hide hb0
    obtain rfl : X1 = [] := by rw [hX1]; simp
    obtain rfl : X2 = [] := by rw [hX2]; simp
    have HE2 : Hid (cst (rowOf ⟨#[]⟩ [] 0 n) = Z) := hide (by rw [HE.out]; simp [cst, splice])
    clear hW hZ hX1 hX2 hmk h1 hr hb0 hl1 hl2 hZl HE
    go_enter Try.func24, Try.ntmps24
    go_wp2
    go_region_held_law (fun w' => w'.cell? ⟨p, 1, none⟩ = some (.slice none 0 0) ∧ w'.cell? ⟨p, 2, none⟩ = some (.int .i64 0)) (first | exact ⟨by assumption, by assumption⟩ | go_keep) ((refine step_copy_splice rfl (.tmp 9) (.tmp 18) 39 39 rfl 9 Try.underlying39 Try.sizet _ _ _ _ _ _ rfl rfl w.heap.size 0 Z 9 (by exact HG0.out) [] (Nat.zero_min _).symm (fun h => absurd h (Nat.lt_irrefl 0)) (Nat.zero_le _) (fun _ h => absurd h List.not_mem_nil) w.heap.size w (by exact below_drewN HB0.out 1) (Nat.le_refl _) ?_; intro w4 hg4 hb4; have d1 := bsome hb4 HC1.out; have d2 := bsome hb4 HC2.out; have HG4 : Hid (w4.heap[w.heap.size]? = some (.cells Z.toArray 9 (0, 0))) := hide (by have h := hg4.out; rwa [splice_nil] at h); have HB4 := hide hb4; clear hb4 hg4; (try simp only [Act.put, List.getElem_toArray, List.getElem_cons_succ, List.getElem_cons_zero, List.setIfInBounds_toArray, List.set_cons_zero, List.set_cons_succ])))
    go_wp2
    clear c1 c2 hmk'
    go_region_held_law (fun w' => w'.cell? ⟨p, 1, none⟩ = some (.slice none 0 0) ∧ w'.cell? ⟨p, 2, none⟩ = some (.int .i64 0)) (first | exact ⟨by assumption, by assumption⟩ | go_keep) ((refine step_copy_splice rfl (.tmp 22) (.tmp 31) 39 39 rfl 9 Try.underlying39 Try.sizet _ _ _ _ _ _ rfl rfl w.heap.size 0 Z 9 (by exact HG4.out) [] (Nat.zero_min _).symm (fun h => absurd h (Nat.lt_irrefl 0)) (Nat.zero_le _) (fun _ h => absurd h List.not_mem_nil) w.heap.size w (by exact below_drewN HB4.out 1) (Nat.le_refl _) ?_; intro w5 hg5 hb5; have d1 := bsome hb5 HC1.out; have d2 := bsome hb5 HC2.out; have HG5 : Hid (w5.heap[w.heap.size]? = some (.cells Z.toArray 9 (0, 0))) := hide (by have h := hg5.out; rwa [splice_nil] at h); have HB5 := hide hb5; clear hb5 hg5; (try simp only [Act.put, List.getElem_toArray, List.getElem_cons_succ, List.getElem_cons_zero, List.setIfInBounds_toArray, List.set_cons_zero, List.set_cons_succ])))
    go_wp2
    go_ret
    exact ⟨rfl, by rw [HE2.out]; exact HG5.out, HB5.out⟩
  · have HG0 : Hid ((w.alloc (.cells Z.toArray 9)).heap[w.heap.size]? = some (.cells Z.toArray 9 (0, 0))) := hide (heap_alloc_new w _)
    have hb0 : Below w.heap.size w (w.alloc (.cells Z.toArray 9)) := (Below.refl _ _).alloc (Nat.le_refl _) _
    obtain ⟨W, hW⟩ : ∃ W, w.alloc (.cells Z.toArray 9) = W := ⟨_, rfl⟩
    have hmk' := hmk w
    rw [hW] at HG0 hb0 hmk'
    have hr := h1.below hb0
    have c1 := hr.c1
    have c2 := hr.c2
    have HC1 := hide h1.c1
    have HC2 := hide h1.c2
    have HD := hide (fun (k : Nat) x (hx : X1[k]? = some x) => show C[f + k]? = some x by
      rw [hX1, List.getElem?_take] at hx
      split at hx
      · rwa [List.getElem?_drop] at hx
      · cases hx)
    have HT := hide (fun (k : Nat) x (hx : X2[k]? = some x) => show C[0 + k]? = some x by
      rw [hX2, List.getElem?_take] at hx
      split at hx
      · rw [List.getElem?_take] at hx
        split at hx
        · rwa [Nat.zero_add]
        · cases hx
      · cases hx)
    have HGL := hide (And.intro (Array.getElem?_eq_some_iff.1 hg).1 hg)
    have HGS := hide (show W.heap[g]? = _ from (hb0.block g (Array.getElem?_eq_some_iff.1 hg).1).trans hg)
    have HB0 := hide hb0
    have HL1 := hide hl1
    have HL2 := hide hl2
    have HZ := hide hZl
    have hf1 : f ≤ C.length := by omega
    have hf2 : ¬ C.length = f := by omega
    clear hW hZ hX1 hX2 hmk h1 hr hb0 hg hl1 hl2 hZl
    go_enter Try.func24, Try.ntmps24
    go_wp2
    go_region_held_law (fun w' => w'.cell? ⟨p, 1, none⟩ = some (.slice (some ⟨g, 0, none⟩) C.length C.length) ∧ w'.cell? ⟨p, 2, none⟩ = some (.int .i64 (f : Int))) (first | exact ⟨by assumption, by assumption⟩ | go_keep) ((refine step_copy_splice rfl (.tmp 9) (.tmp 18) 39 39 rfl 9 Try.underlying39 Try.sizet _ _ _ _ _ _ rfl rfl w.heap.size 0 Z 9 (by exact HG0.out) (cst X1) (by rw [cst_len]; exact HL1.out) (fun _ => ⟨rfl, _, rfl, srct HGS.out X1 HD.out⟩) (by rw [cst_len, HZ.out, HL1.out, Nat.zero_add]; exact Nat.min_le_right _ _) (cst_one X1) w.heap.size w (HB0.out.trans (below_drewN (Below.refl _ _) 1)) (Nat.le_refl _) ?_; intro w4 hg4 hb4; have d1 := bsome hb4 HC1.out; have d2 := bsome hb4 HC2.out; have HB4 := hide hb4; clear hb4; (try simp only [Act.put, List.getElem_toArray, List.getElem_cons_succ, List.getElem_cons_zero, List.setIfInBounds_toArray, List.set_cons_zero, List.set_cons_succ])))
    have hq := cst_len X1
    go_wp2
    have hq1 : X1.length ≤ n := by rw [HL1.out]; exact Nat.min_le_right _ _
    have HF2 : Hid (X1.length + (cst X2).length ≤ (splice Z 0 (cst X1)).length) := hide (by
      rw [length_splice _ _ _ (by rw [cst_len, HZ.out, Nat.zero_add]; exact hq1), HZ.out, cst_len, HL2.out]
      have := Nat.min_le_right f (n - X1.length)
      change X1.length + min f (n - X1.length) ≤ n
      omega)
    have HGS4 : Hid (w4.heap[g]? = _) := hide ((HB4.out.block g HGL.out.1).trans HGL.out.2)
    clear c1 c2 hmk' HB0 HG0 HGS HZ HL1
    by_cases hq2 : n = X1.length
    · have HL20 : Hid (X2.length = f.min 0) := hide (by rw [HL2.out, ← hq2, Nat.sub_self])
      have HL00 : Hid (X2.length = 0) := hide (by rw [HL20.out]; exact Nat.min_zero f)
      go_region_held_law (fun w' => w'.cell? ⟨p, 1, none⟩ = some (.slice (some ⟨g, 0, none⟩) C.length C.length) ∧ w'.cell? ⟨p, 2, none⟩ = some (.int .i64 (f : Int))) (first | exact ⟨by assumption, by assumption⟩ | go_keep) ((refine step_copy_splice rfl (.tmp 22) (.tmp 31) 39 39 rfl 9 Try.underlying39 Try.sizet _ _ _ _ _ _ rfl rfl w.heap.size X1.length (splice Z 0 (cst X1)) 9 (by exact hg4.out) (cst X2) (by rw [cst_len]; exact HL20.out) (fun h0 => absurd h0 (by rw [cst_len, HL00.out]; exact Nat.lt_irrefl 0)) HF2.out (cst_one X2) w.heap.size w (by exact below_drewN HB4.out 1) (Nat.le_refl _) ?_; intro w5 hg5 hb5; have e1 := bsome hb5 HC1.out; have e2 := bsome hb5 HC2.out; have HB5 := hide hb5; clear hb5; (try simp only [Act.put, List.getElem_toArray, List.getElem_cons_succ, List.getElem_cons_zero, List.setIfInBounds_toArray, List.set_cons_zero, List.set_cons_succ])))
      go_wp2
      go_ret
      exact ⟨rfl, by rw [HE.out]; exact hg5.out, HB5.out⟩
    · go_region_held_law (fun w' => w'.cell? ⟨p, 1, none⟩ = some (.slice (some ⟨g, 0, none⟩) C.length C.length) ∧ w'.cell? ⟨p, 2, none⟩ = some (.int .i64 (f : Int))) (first | exact ⟨by assumption, by assumption⟩ | go_keep) ((refine step_copy_splice rfl (.tmp 22) (.tmp 31) 39 39 rfl 9 Try.underlying39 Try.sizet _ _ _ _ _ _ rfl rfl w.heap.size X1.length (splice Z 0 (cst X1)) 9 (by exact hg4.out) (cst X2) (by rw [cst_len]; exact HL2.out) (fun _ => ⟨rfl, _, rfl, srct HGS4.out X2 HT.out⟩) HF2.out (cst_one X2) w.heap.size w (by exact below_drewN HB4.out 1) (Nat.le_refl _) ?_; intro w5 hg5 hb5; have e1 := bsome hb5 HC1.out; have e2 := bsome hb5 HC2.out; have HB5 := hide hb5; clear hb5; (try simp only [Act.put, List.getElem_toArray, List.getElem_cons_succ, List.getElem_cons_zero, List.setIfInBounds_toArray, List.set_cons_zero, List.set_cons_succ])))
      go_wp2
      go_ret
      exact ⟨rfl, by rw [HE.out]; exact hg5.out, HB5.out⟩
theorem RBt.fC {w : World} {p s : Nat} {C : List ByteArray} {cv : Value} {f m : Nat} (h : RBt w p s C cv f m) : f < C.length ∨ C = [] := by
  rcases h.row with ⟨h1, -⟩ | ⟨g, -, -, -, h5⟩
  · exact .inr h1
  · exact .inl h5
theorem RBt.cvf {w : World} {p s : Nat} {C : List ByteArray} {cv : Value} {f m : Nat} (h : RBt w p s C cv f m) : ∃ a c, cv = .slice a C.length c := by
  rcases h.row with ⟨rfl, rfl, -⟩ | ⟨g, rfl, -⟩
  · exact ⟨none, 0, rfl⟩
  · exact ⟨_, _, rfl⟩
set_option maxRecDepth 100000 in
set_option maxHeartbeats 1000000 in
/-- More cells. -/
theorem wident {w : World} {p s : Nat} {C : List ByteArray} {cv : Value} {f m : Nat} (h1 : RBt w p s C cv f m) (hC : C.length ≤ 1000) (hs : s = 0 ∨ C.length < s) : Calls Try.prog 23 #[.pointer (some ⟨p, 0, none⟩)] w fun e w' => e = .returned (.tuple #[]) ∧ ∃ n, C.length < n ∧ n ≤ 2000 ∧ (s = 0 ∨ n ≤ s) ∧ RBt w' p s (rowOf ⟨#[]⟩ C f n) (.slice (some ⟨w.heap.size, 0, none⟩) n n) 0 m ∧ Kx (fun b => b ≠ p) w w' := by
  obtain ⟨a, c, rfl⟩ := h1.cvf
  have c0 := h1.c0
  have c1 := h1.c1
  have H1 := hide h1
  have HR : Hid (∀ (x : Int) (n : Nat), x = (n : Int) → n ≤ 4000 → Calls Try.prog 24 #[.pointer (some ⟨p, 0, none⟩), .int .i64 x] w fun e w' => e = .returned (.slice (some ⟨w.heap.size, 0, none⟩) n n) ∧ w'.heap[w.heap.size]? = some (.cells (cst (rowOf ⟨#[]⟩ C f n)).toArray 9 (0, 0)) ∧ Below w.heap.size w w') := hide (fun x n hx hn => by
    rw [hx]
    exact rowt h1 (by omega) n hn)
  have HE : Hid (∀ (n : Nat) (w1 : World), C.length < n → n ≤ 2000 → (s = 0 ∨ n ≤ s) → w1.heap[w.heap.size]? = some (.cells (cst (rowOf ⟨#[]⟩ C f n)).toArray 9 (0, 0)) → Below w.heap.size w w1 → ∃ n', C.length < n' ∧ n' ≤ 2000 ∧ (s = 0 ∨ n' ≤ s) ∧ RBt ((w1.setCell ⟨p, 1, none⟩ (.slice (some ⟨w.heap.size, 0, none⟩) n n)).setCell ⟨p, 2, none⟩ (.int .i64 0)) p s (rowOf ⟨#[]⟩ C f n') (.slice (some ⟨w.heap.size, 0, none⟩) n' n') 0 m ∧ Kx (fun b => b ≠ p) w ((w1.setCell ⟨p, 1, none⟩ (.slice (some ⟨w.heap.size, 0, none⟩) n n)).setCell ⟨p, 2, none⟩ (.int .i64 0))) := hide (fun n w1 q1 q2 q3 q4 q5 => by
    have hl := rowOf_len ⟨#[]⟩ C f n h1.fC
    have := (h1.below q5).setC q4 (by have := h1.lt; omega) (by omega)
    rw [hl] at this
    exact ⟨n, q1, q2, q3, this, (((Kx.of_below (X := fun b => b ≠ p) q5).set (p := ⟨p, 1, none⟩) (.inr (fun e => e rfl)) _).set (p := ⟨p, 2, none⟩) (.inr (fun e => e rfl)) _)⟩)
  clear h1
  go_enter Try.func23, Try.ntmps23
  go_wp2_with fail
  all_goals first
    | (with_reducible refine (HR.out (s : Int) s rfl (by omega)).mono ?_)
    | (with_reducible refine (HR.out (2 * (C.length : Int)) (2 * C.length) (by omega) (by omega)).mono ?_)
    | (with_reducible refine (HR.out 1 1 rfl (by omega)).mono ?_)
  all_goals
    rintro e w1 ⟨rfl, q4, q5⟩
    have hw := H1.out.below q5
    have d1 := hw.c1
    have d2 := hw.c2
    have f1 := hw.fz 1
    have f2 := hw.fz 2
    have HF := hide (HE.out _ w1 (by omega) (by omega) (by omega) q4 q5)
    clear hw q4 q5
    go_wp2
    go_end0
    exact ⟨rfl, HF.out⟩
theorem RBt.heap {w w' : World} {p s : Nat} {C : List ByteArray} {cv : Value} {f m : Nat} (h : RBt w p s C cv f m) (e : w'.heap = w.heap) : RBt w' p s C cv f m :=
  h.keep (by rw [e]) (fun _ _ => by rw [e])
theorem RIt.made {w : World} {p s : Nat} {C : List ByteArray} {cv : Value} {f m : Nat} {M : List ByteArray} (a : RBt w p s C cv f m) (b : m = M.length) (c : M.length ≤ C.length) (d : C.length ≤ 2000) (e : 0 < s → C.length ≤ s) (g : ∀ (k : Nat) x, M[k]? = some x → C[(f + k) % C.length]? = some x) : RIt (fun b => b = p ∨ cv.ownBlock = some b) w p s M :=
  ⟨C, cv, f, by rw [← b]; exact a, c, d, e, g, fun _ => Iff.rfl⟩
/-- A ring with room for one more. -/
structure PSt (F : Nat → Prop) (w : World) (p s : Nat) (M : List ByteArray) (W : World) (C : List ByteArray) (g f : Nat) : Prop where
  rb : RBt W p s C (.slice (some ⟨g, 0, none⟩) C.length C.length) f M.length
  lt : M.length < C.length
  le : C.length ≤ 2000
  sl : 0 < s → C.length ≤ s
  he : ∀ (k : Nat) x, M[k]? = some x → C[(f + k) % C.length]? = some x
  kx : Kx (fun b => ¬ F b) w W
  fg : F g ∨ w.heap.size ≤ g
  fp : F p
theorem PSt.drew {F : Nat → Prop} {w : World} {p s : Nat} {M : List ByteArray} {W : World} {C : List ByteArray} {g f : Nat} (h : PSt F w p s M W C g f) (n : Nat) : PSt F w p s M (W.drewN n) C g f :=
  ⟨h.rb.heap rfl, h.lt, h.le, h.sl, h.he, h.kx.drewN n, h.fg, h.fp⟩
theorem PSt.fin {F : Nat → Prop} {w : World} {p s : Nat} {M : List ByteArray} {W : World} {C : List ByteArray} {g f : Nat} (h : PSt F w p s M W C g f) (x : ByteArray) (j : Nat) (hj : (f + M.length) % C.length = j) (m : Int) (hm : m = (M.length : Int) + 1) :
    ∃ F' : Nat → Prop, RIt F' ((W.setCell ⟨g, j, none⟩ (.string x)).setCell ⟨p, 3, none⟩ (.int .i64 m)) p s (M ++ [x]) ∧ Kx (fun b => ¬ F b) w ((W.setCell ⟨g, j, none⟩ (.string x)).setCell ⟨p, 3, none⟩ (.int .i64 m)) ∧ ∀ b, F' b → F b ∨ w.heap.size ≤ b := by
  have hlt := h.lt
  have r1 := (h.rb.setX rfl j x).setM (M.length + 1)
  rw [show ((M.length + 1 : Nat) : Int) = m by omega] at r1
  refine ⟨_, RIt.made r1 (by simp) (by rw [List.length_set, List.length_append, List.length_cons, List.length_nil]; omega) (by rw [List.length_set]; exact h.le) (fun e => by rw [List.length_set]; exact h.sl e) (by rw [← hj]; exact ring_put x hlt h.he), (h.kx.set (p := ⟨g, j, none⟩) (h.fg.elim (fun e => .inr (fun e' => e' e)) .inl) _).set (p := ⟨p, 3, none⟩) (.inr (fun e => e h.fp)) _, fun b hb => ?_⟩
  rcases hb with rfl | hb
  · exact .inl h.fp
  · have e : g = b := by simpa [Value.ownBlock] using hb
    rw [← e]
    exact h.fg
set_option maxRecDepth 100000 in
set_option maxHeartbeats 1000000 in
theorem putt {F : Nat → Prop} {w : World} {p s : Nat} {M : List ByteArray} (x : ByteArray) (h : RIt F w p s M) (hM : M.length ≤ 1000) : Calls Try.prog 16 #[.pointer (some ⟨p, 0, none⟩), .string x] w fun e w' => e = .returned (.bool (!fullT s M)) ∧ ∃ F' : Nat → Prop, RIt F' w' p s (if fullT s M then M else M ++ [x]) ∧ Kx (fun b => ¬ F b) w w' ∧ ∀ b, F' b → F b ∨ w.heap.size ≤ b := by
  obtain ⟨C, cv, f, h1, h2, h3, h4, h5, hF⟩ := h
  have hfu : fullT s M = (decide (0 < s) && decide (M.length = s)) := by
    unfold fullT
    by_cases e : 0 < s
    · have := h4 e
      by_cases e2 : M.length = s
      · rw [decide_eq_true e2, decide_eq_true (by omega : s ≤ M.length)]
      · rw [decide_eq_false e2, decide_eq_false (by omega : ¬ s ≤ M.length)]
    · rw [decide_eq_false e]; rfl
  cases hb : fullT s M with
  | true =>
    have HR : Hid (RIt F w p s M) := hide ⟨C, cv, f, h1, h2, h3, h4, h5, hF⟩
    have HC := hide (fullt h1 true (by rw [← hfu]; exact hb.symm))
    rw [if_pos rfl]
    clear h1 h2 h3 h4 h5 hF hfu hb hM
    go_enter Try.func16, Try.ntmps16
    go_wp2_with fail
    refine HC.out.mono ?_
    rintro e w1 ⟨rfl, n, rfl⟩
    go_wp2
    go_ret
    exact ⟨rfl, F, HR.out.keep ((Kx.refl _ _).drewN n), (Kx.refl _ _).drewN n, fun b hb => .inl hb⟩
  | false =>
    have HC := hide (fullt h1 false (by rw [← hfu]; exact hb.symm))
    have hs : s = 0 ∨ M.length < s := by
      rw [hfu] at hb
      by_cases e : 0 < s
      · have := h4 e
        rw [decide_eq_true e, Bool.true_and] at hb
        have := of_decide_eq_false hb
        omega
      · omega
    rw [if_neg (by decide)]
    have H1 := hide h1
    have HF := hide hF
    have H5 := hide h5
    clear h1 h5 hF hfu hb
    go_enter Try.func16, Try.ntmps16
    go_wp2_with fail
    refine HC.out.mono ?_
    rintro e w1 ⟨rfl, n, rfl⟩
    have hr := H1.out.heap (w' := w.drewN n) rfl
    obtain ⟨W, hW⟩ : ∃ W, w.drewN n = W := ⟨_, rfl⟩
    have HK : Hid (Below w.heap.size w W) := hide (by rw [← hW]; exact below_drewN (Below.refl _ _) n)
    rw [hW] at hr
    rw [hW]
    clear hW HC H1
    obtain ⟨a, c, rfl⟩ := hr.cvf
    have c1 := hr.c1
    have c2 := hr.c2
    have c3 := hr.c3
    have HB := hide hr
    clear hr
    by_cases hm : M.length = C.length
    · have hd : ((M.length : Int) == (C.length : Int)) = true := by rw [hm]; simp
      have HW := hide (fun n => wident (HB.out.heap (w' := W.drewN n) rfl) (by omega) (by omega))
      go_wp2
      go_quiet (fail)
      rename_i nq
      go_wp2_with fail
      refine (HW.out nq).mono ?_
      rintro e W2 ⟨rfl, n2, q1, q2, q3, q4, q5⟩
      have HP : Hid (PSt F w p s M W2 (rowOf ⟨#[]⟩ C f n2) (W.drewN nq).heap.size 0) := hide (by
        have hl := rowOf_len ⟨#[]⟩ C f n2 HB.out.fC
        refine ⟨by rw [hl]; exact q4, by rw [hl]; omega, by rw [hl]; exact q2, fun e => by rw [hl]; omega, fun k x hx => ?_, ((Kx.of_below HK.out).drewN nq).trans (q5.mono (fun b _ hb e => hb ((HF.out b).2 (.inl e)))), .inr HK.out.size, (HF.out p).2 (.inl rfl)⟩
        have hk := (List.getElem?_eq_some_iff.1 hx).1
        rw [hl, Nat.zero_add, Nat.mod_eq_of_lt (by omega)]
        exact rowOf_held ⟨#[]⟩ C M f n2 h2 (by omega) HB.out.fC H5.out k x hx)
      clear HB HK H5 HF c1 c2 c3 hs h2 h3 h4 hd HW q1 q2 q3 q4 q5 hm
      obtain ⟨C2, g2, f2, HP⟩ : ∃ C2 g2 f2, Hid (PSt F w p s M W2 C2 g2 f2) := ⟨_, _, _, HP⟩
      obtain ⟨j, hj⟩ : ∃ j, (f2 + M.length) % C2.length = j := ⟨_, rfl⟩
      have hjl : j < C2.length := by rw [← hj]; exact Nat.mod_lt _ (by have := HP.out.lt; omega)
      obtain ⟨y, hy⟩ : ∃ y, C2[j]? = some y := ⟨_, List.getElem?_eq_getElem hjl⟩
      have HFin := hide (fun m hm => (HP.out.drew 1).fin x j hj m hm)
      have k1 := HP.out.rb.c1
      have k2 := HP.out.rb.c2
      have k3 := HP.out.rb.c3
      have kg := HP.out.rb.rc rfl hy
      have kf := HP.out.rb.rz rfl j
      have k4 := HP.out.rb.fz 3
      have hgp : g2 ≠ p := (HP.out.rb.own rfl).2
      have hb1 := HP.out.lt
      have hb2 := HP.out.le
      have hb3 : f2 < C2.length := by
        rcases HP.out.rb.fC with e | e
        · exact e
        · subst e; cases hjl
      have hrem : Int.tmod ((f2 : Int) + (M.length : Int)) (C2.length : Int) = (j : Int) := by
        rw [← hj]
        exact (Int.ofNat_tmod (f2 + M.length) C2.length).symm ▸ rfl
      clear hy hj HP
      go_wp2
      go_region
      have z3 : ((W2.drewN 1).setCell ⟨g2, j, none⟩ (.string x)).cell? ⟨p, 3, none⟩ = some (.int .i64 (M.length : Int)) := (World.cell?_setCell_other _ _ _ _ (fun e => hgp (by injection e))).trans k3
      go_wp2
      go_ret
      exact ⟨rfl, HFin.out _ rfl⟩
    · have hd : ((M.length : Int) == (C.length : Int)) = false := by simp; omega
      go_wp2
      go_quiet (fail)
      rename_i nq
      obtain ⟨g, ha, hc⟩ : ∃ g, a = some ⟨g, 0, none⟩ ∧ c = C.length := by
        rcases HB.out.row with ⟨e, -⟩ | ⟨g, e, -⟩
        · have : C.length = 0 := by rw [e]; rfl
          omega
        · simp only [Value.slice.injEq, true_and] at e
          exact ⟨g, e.1, e.2⟩
      subst ha hc
      have HP : Hid (PSt F w p s M (W.drewN nq) C g f) := hide ⟨HB.out.heap rfl, by omega, h3, h4, H5.out, (Kx.of_below HK.out).drewN nq, .inl ((HF.out g).2 (.inr rfl)), (HF.out p).2 (.inl rfl)⟩
      clear HB HK H5 HF c1 c2 c3 hs h2 h3 h4 hd
      generalize W.drewN nq = W2 at *
      obtain ⟨C2, g2, f2, HP⟩ : ∃ C2 g2 f2, Hid (PSt F w p s M W2 C2 g2 f2) := ⟨C, g, f, HP⟩
      obtain ⟨j, hj⟩ : ∃ j, (f2 + M.length) % C2.length = j := ⟨_, rfl⟩
      have hjl : j < C2.length := by rw [← hj]; exact Nat.mod_lt _ (by have := HP.out.lt; omega)
      obtain ⟨y, hy⟩ : ∃ y, C2[j]? = some y := ⟨_, List.getElem?_eq_getElem hjl⟩
      have HFin := hide (fun m hm => (HP.out.drew 1).fin x j hj m hm)
      have k1 := HP.out.rb.c1
      have k2 := HP.out.rb.c2
      have k3 := HP.out.rb.c3
      have kg := HP.out.rb.rc rfl hy
      have kf := HP.out.rb.rz rfl j
      have k4 := HP.out.rb.fz 3
      have hgp : g2 ≠ p := (HP.out.rb.own rfl).2
      have hb1 := HP.out.lt
      have hb2 := HP.out.le
      have hb3 : f2 < C2.length := by
        rcases HP.out.rb.fC with e | e
        · exact e
        · subst e; cases hjl
      have hrem : Int.tmod ((f2 : Int) + (M.length : Int)) (C2.length : Int) = (j : Int) := by
        rw [← hj]
        exact (Int.ofNat_tmod (f2 + M.length) C2.length).symm ▸ rfl
      clear hy hj HP
      go_wp2
      go_region
      have z3 : ((W2.drewN 1).setCell ⟨g2, j, none⟩ (.string x)).cell? ⟨p, 3, none⟩ = some (.int .i64 (M.length : Int)) := (World.cell?_setCell_other _ _ _ _ (fun e => hgp (by injection e))).trans k3
      go_wp2
      go_ret
      exact ⟨rfl, HFin.out _ rfl⟩
theorem PSt.tk {F : Nat → Prop} {w : World} {p s : Nat} {x : ByteArray} {M : List ByteArray} {C : List ByteArray} {g f : Nat} (h : RBt w p s C (.slice (some ⟨g, 0, none⟩) C.length C.length) f (M.length + 1)) (h2 : M.length + 1 ≤ C.length) (h3 : C.length ≤ 2000) (h4 : 0 < s → C.length ≤ s) (h5 : ∀ (k : Nat) y, (x :: M)[k]? = some y → C[(f + k) % C.length]? = some y) (hF : ∀ b, F b ↔ (b = p ∨ some g = some b)) (n1 n2 n3 : Nat) (f' m' : Int) (hf : f' = ((f + 1) % C.length : Nat)) (hm : m' = M.length) :
    ∃ F' : Nat → Prop, RIt F' (((((w.drewN n1).drewN n2).setCell ⟨g, f, none⟩ (.string ⟨#[]⟩)).drewN n3).setCell ⟨p, 2, none⟩ (.int .i64 f') |>.setCell ⟨p, 3, none⟩ (.int .i64 m')) p s M ∧ Kx (fun b => ¬ F b) w (((((w.drewN n1).drewN n2).setCell ⟨g, f, none⟩ (.string ⟨#[]⟩)).drewN n3).setCell ⟨p, 2, none⟩ (.int .i64 f') |>.setCell ⟨p, 3, none⟩ (.int .i64 m')) ∧ ∀ b, F' b → F b ∨ w.heap.size ≤ b := by
  have hfl : f < C.length := by
    rcases h.fC with e | e
    · exact e
    · subst e; simp at h2
  have r1 := ((((h.heap (w' := (w.drewN n1).drewN n2) rfl).setX rfl f ⟨#[]⟩).heap (w' := (((w.drewN n1).drewN n2).setCell ⟨g, f, none⟩ (.string ⟨#[]⟩)).drewN n3) rfl).setF ((f + 1) % C.length) (.inl (by rw [List.length_set]; exact Nat.mod_lt _ (by omega)))).setM M.length
  rw [← hf, ← hm] at r1
  refine ⟨_, RIt.made r1 rfl (by rw [List.length_set]; omega) (by rw [List.length_set]; exact h3) (fun e => by rw [List.length_set]; exact h4 e) (ring_take ⟨#[]⟩ hfl h2 h5), ?_, fun b hb => ?_⟩
  · have hg : F g := (hF g).2 (.inr rfl)
    have hp : F p := (hF p).2 (.inl rfl)
    exact (((((((Kx.refl (fun b => ¬ F b) w).drewN n1).drewN n2).set (p := ⟨g, f, none⟩) (.inr (fun e => e hg)) _).drewN n3).set (p := ⟨p, 2, none⟩) (.inr (fun e => e hp)) _).set (p := ⟨p, 3, none⟩) (.inr (fun e => e hp)) _)
  · refine .inl ((hF b).2 ?_)
    rcases hb with e | hb
    · exact .inl e
    · exact .inr (by simpa [Value.ownBlock] using hb)
set_option maxRecDepth 100000 in
set_option maxHeartbeats 1000000 in
theorem taket {F : Nat → Prop} {w : World} {p s : Nat} {M : List ByteArray} (h : RIt F w p s M) : Calls Try.prog 18 #[.pointer (some ⟨p, 0, none⟩)] w fun e w' => e = .returned (.tuple #[.string (M.headD ⟨#[]⟩), .bool (!M.isEmpty)]) ∧ ∃ F' : Nat → Prop, RIt F' w' p s M.tail ∧ Kx (fun b => ¬ F b) w w' ∧ ∀ b, F' b → F b ∨ w.heap.size ≤ b := by
  cases M with
  | nil =>
    have HR := hide h
    obtain ⟨C, cv, f, h1, -⟩ := h
    have c3 : w.cell? ⟨p, 3, none⟩ = some (.int .i64 0) := h1.c3
    clear h1
    go_enter Try.func18, Try.ntmps18
    go_wp2
    go_ret2
    exact ⟨rfl, F, HR.out, Kx.refl _ _, fun b hb => .inl hb⟩
  | cons x M =>
    obtain ⟨C, cv, f, h1, h2, h3, h4, h5, hF⟩ := h
    have hfl : f < C.length := by
      rcases h1.fC with e | e
      · exact e
      · subst e; simp at h2
    obtain ⟨g, rfl⟩ : ∃ g, cv = .slice (some ⟨g, 0, none⟩) C.length C.length := by
      rcases h1.row with ⟨e, -⟩ | ⟨g, e, -⟩
      · subst e; cases hfl
      · exact ⟨g, e⟩
    have hx : C[f]? = some x := by
      have := h5 0 x rfl
      rwa [Nat.add_zero, Nat.mod_eq_of_lt hfl] at this
    have HFin := hide (PSt.tk (F := F) (x := x) (M := M) h1 h2 h3 h4 h5 (fun b => hF b))
    have c1 := h1.c1
    have c2 := h1.c2
    have c3 : w.cell? ⟨p, 3, none⟩ = some (.int .i64 ((M.length : Int) + 1)) := by simpa using h1.c3
    have kg := h1.rc rfl hx
    have kf := h1.rz rfl f
    have k2 := h1.fz 2
    have k3 := h1.fz 3
    have hgp : g ≠ p := (h1.own rfl).2
    have hd : (((M.length : Int) + 1) == 0) = false := by simp; omega
    have hml : M.length + 1 ≤ 2000 := by simp at h2; omega
    obtain ⟨j, hj⟩ : ∃ j, (f + 1) % C.length = j := ⟨_, rfl⟩
    rw [hj] at HFin
    have hrem : Int.tmod ((f : Int) + 1) (C.length : Int) = (j : Int) := by
      rw [← hj]
      exact (Int.ofNat_tmod (f + 1) C.length).symm ▸ rfl
    clear h1 h2 h4 h5 hF hx hj
    go_enter Try.func18, Try.ntmps18
    go_wp2
    go_quiet (fail)
    go_wp2
    go_region
    have hne : ∀ k, (⟨g, f, none⟩ : Addr) ≠ ⟨p, k, none⟩ := fun k e => hgp (by injection e)
    have z1 : (((w.drewN nq).drewN 1).setCell ⟨g, f, none⟩ (.string ⟨#[]⟩)).cell? ⟨p, 1, none⟩ = _ := (World.cell?_setCell_other _ _ _ _ (hne 1)).trans c1
    have z2 : (((w.drewN nq).drewN 1).setCell ⟨g, f, none⟩ (.string ⟨#[]⟩)).cell? ⟨p, 2, none⟩ = _ := (World.cell?_setCell_other _ _ _ _ (hne 2)).trans c2
    have z3 : (((w.drewN nq).drewN 1).setCell ⟨g, f, none⟩ (.string ⟨#[]⟩)).cell? ⟨p, 3, none⟩ = _ := (World.cell?_setCell_other _ _ _ _ (hne 3)).trans c3
    have y2 : (((w.drewN nq).drewN 1).setCell ⟨g, f, none⟩ (.string ⟨#[]⟩)).frozen? ⟨p, 2, none⟩ = false := (World.frozen?_setCell _ _ _ _).trans k2
    have y3 : (((w.drewN nq).drewN 1).setCell ⟨g, f, none⟩ (.string ⟨#[]⟩)).frozen? ⟨p, 3, none⟩ = false := (World.frozen?_setCell _ _ _ _).trans k3
    have HFin2 := hide (HFin.out nq 1 1 (j : Int) (M.length : Int) rfl rfl)
    change Exit.then _ _ _ _ (((w.drewN nq).drewN 1).setCell ⟨g, f, none⟩ (.string ⟨#[]⟩))
    generalize ((w.drewN nq).drewN 1).setCell ⟨g, f, none⟩ (.string ⟨#[]⟩) = W at *
    clear c1 c2 c3 kg kf k2 k3 hne HFin
    go_wp2
    go_region
    go_wp2
    go_ret2
    exact ⟨rfl, HFin2.out⟩
set_option maxRecDepth 100000 in
set_option maxHeartbeats 1000000 in
theorem allt {F : Nat → Prop} {w : World} {p s : Nat} {M : List ByteArray} (h : RIt F w p s M) : Calls Try.prog 19 #[.pointer (some ⟨p, 0, none⟩)] w fun e w' => e = .returned (.slice (some ⟨w.heap.size, 0, none⟩) M.length M.length) ∧ w'.heap[w.heap.size]? = some (.cells (cst M).toArray 9 (0, 0)) ∧ Below w.heap.size w w' := by
  obtain ⟨C, cv, f, h1, h2, h3, h4, h5, hF⟩ := h
  have c3 := h1.c3
  have HR := hide (rowt h1 h3 M.length (by omega))
  rw [rowOf_all ⟨#[]⟩ C M f h2 h1.fC h5] at HR
  clear h1 h2 h3 h4 h5 hF
  go_enter Try.func19, Try.ntmps19
  go_wp2_with fail
  refine HR.out.mono ?_
  rintro e w1 ⟨rfl, q1, q2⟩
  have HQ := hide (And.intro q1 q2)
  clear q1 q2
  go_wp2
  go_ret
  exact ⟨rfl, HQ.out⟩
end Go.Proofs.Ytllgphjgadmmaaa

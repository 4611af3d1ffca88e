import Derived.Test.YtbepaimbbclejaaRjP
import Derived.Laws.CopyOwn
import Derived.BigRegion
import Derived.Deep.RegionHeldLaw
/- Package ring, of items: a ring in memory, what each call does. -/
namespace Go.Proofs.Ytbepaimbbclejaa
open Go.RowKit

theorem icl_set (C : List (Int × Int)) : ∀ (k : Nat) (x : Int × Int), ((icl C).set (k * 2) (.int .i64 x.1)).set (k * 2 + 1) (.int .i64 x.2) = icl (C.set k x) := by
  induction C with
  | nil => intro k x; simp [icl]
  | cons y C ih =>
    intro k x
    cases k with
    | zero => rfl
    | succ k =>
      rw [icl_cons, show (k + 1) * 2 = k * 2 + 2 by omega]
      show _ :: _ :: ((icl C).set (k * 2) _).set (k * 2 + 1) _ = icl (y :: C.set k x)
      rw [ih, icl_cons]
theorem icl_take (C : List (Int × Int)) : ∀ k : Nat, icl (C.take k) = (icl C).take (k * 2) := by
  induction C with
  | nil => intro k; simp [icl]
  | cons y C ih =>
    intro k
    cases k with
    | zero => simp [icl]
    | succ k =>
      rw [List.take_succ_cons, icl_cons, icl_cons, ih, show (k + 1) * 2 = k * 2 + 1 + 1 by omega, List.take_succ_cons, List.take_succ_cons]
theorem icl_drop (C : List (Int × Int)) : ∀ k : Nat, icl (C.drop k) = (icl C).drop (k * 2) := by
  induction C with
  | nil => intro k; simp [icl]
  | cons y C ih =>
    intro k
    cases k with
    | zero => simp
    | succ k =>
      rw [List.drop_succ_cons, icl_cons, ih, show (k + 1) * 2 = k * 2 + 1 + 1 by omega, List.drop_succ_cons, List.drop_succ_cons]
theorem icl_splice (L : List (Int × Int)) (o : Nat) (cs : List (Int × Int)) : icl (splice L o cs) = splice (icl L) (o * 2) (icl cs) := by
  unfold splice
  rw [icl_app, icl_app, icl_take, icl_drop, icl_len, Nat.add_mul]
/-- A copy of things of z cells each, at a step of a region that draws. -/
theorem step_copy_splicez {P : Program} {ops : Array Oper} {o : Oper} {a : Act} {w : World} {K : Act → World → Prop} {Q : Exit → Act → World → Prop} {E : Prop} (hgd : o.guard = none) (d s : Operand) (dT sT : TypeId)
    (ho : o.op = .call { callee := .builtin .copy, args := #[d, s], argTypes := #[dT, sT] }) (elem : TypeId) (hu : P.underlying dT = some (.slice elem)) (z : Nat) (hsz : (P.info? elem).map (·.size) = some z)
    (dp sp : Option Addr) (dLen dCap sLen sCap : Nat) (hd : a.eval d = .slice dp dLen dCap) (hs : a.eval s = .slice sp sLen sCap)
    (g off : Nat) (cur : List Value) (t : TypeId) (hg : w.heap[g]? = some (.cells cur.toArray t (0, 0))) (cs : List Value) (n : Nat) (hn : n = Nat.min sLen dLen) (hc : cs.length = n * z)
    (hpos : 0 < n → dp = some ⟨g, off, none⟩ ∧ ∃ ad, sp = some ad ∧ ∀ j v, cs[j]? = some v → w.cell? (ad.add j) = some v)
    (hfit : off + cs.length ≤ cur.length) (h1 : ∀ v ∈ cs, v.oneCell' = true) (B : Nat) (w0 : World) (hb : Below B w0 w) (hBg : B ≤ g)
    (h : ∀ w', Hid (w'.heap[g]? = some (.cells (splice cur off cs).toArray t (0, 0))) → Below B w0 w' → K (a.put o.dst (goInt n)) w') :
    if Region.wanted o (yielded ops a.tmps) = true then Oper.wp P o a w K Q else E := by
  have hw : Region.wanted o (yielded ops a.tmps) = true := by simp [Region.wanted, hgd]
  rw [if_pos hw]
  cases hq : P.info? elem with
  | none => simp [hq] at hsz
  | some i =>
    have hi : i.size = z := by simpa [hq] using hsz
    by_cases h0 : n = 0
    · subst h0
      obtain rfl : cs = [] := List.eq_nil_of_length_eq_zero (by simpa using hc)
      have hl : ∀ (x : Addr), (loadCells x 0).run P w = .ok #[] w := fun x => by simpa using run_loadCells_list (P := P) w x [] (by simp)
      have hrun : (Builtin.copy_ #[dT, sT] o.type #[.slice dp dLen dCap, .slice sp sLen sCap]).run P w = .ok (goInt 0) w := by
        cases dp <;> cases sp <;> simp [Builtin.copy_, run_underlying hu, Builtin.lenOf, Builtin.firstCells, sizeOf, typeInfo, hq, ← hn, storeCells, hl]
      unfold Oper.wp
      simp [execOp, ho, resolve, invoke, builtin, hd, hs, hrun, Result.andThen]
      exact h w (show _ = _ by simpa [splice] using hg) hb
    · obtain ⟨rfl, ad, rfl, hsrc⟩ := hpos (by omega)
      have hl := run_loadCells_list (P := P) w ad cs hsrc
      have hst := run_storeCells_at P g off t cs 0 cur.toArray w hg (by simpa using hfit) h1
      have hrun : (Builtin.copy_ #[dT, sT] o.type #[.slice (some ⟨g, off, none⟩) dLen dCap, .slice (some ad) sLen sCap]).run P w = .ok (goInt n) (w.setRow g (cur.toArray.toList.take off ++ cs ++ cur.toArray.toList.drop (off + cs.length)).toArray) := by
        simp [Builtin.copy_, run_underlying hu, Builtin.lenOf, Builtin.firstCells, sizeOf, typeInfo, hq, hi, ← hn, ← hc, hl, hst]
      unfold Oper.wp
      simp [execOp, ho, resolve, invoke, builtin, hd, hs, hrun, Result.andThen]
      exact h _ (show _ = _ by simpa [splice] using setRow_heap w g _ _ t _ hg) (below_setRow hb hBg _)
theorem Try.sizej : (Try.prog.info? 59).map (·.size) = some 2 := by kernel_rfl
def fullJ (s : Nat) (M : List (Int × Int)) : Bool := decide (0 < s) && decide (s ≤ M.length)
/-- A ring's four cells, and its row. -/
structure RBj (w : World) (p s : Nat) (C : List (Int × Int)) (cv : Value) (f m : Nat) : Prop where
  box : ∃ t, w.heap[p]? = some (.cells #[.int .i64 (s : Int), cv, .int .i64 (f : Int), .int .i64 (m : Int)] t (0, 0))
  row : (C = [] ∧ cv = .slice none 0 0 ∧ f = 0) ∨ ∃ g, cv = .slice (some ⟨g, 0, none⟩) C.length C.length ∧ g ≠ p ∧ w.heap[g]? = some (.cells (icl C).toArray 59 (0, 0)) ∧ f < C.length
section
variable {w w' : World} {p s : Nat} {C : List (Int × Int)} {cv : Value} {f m : Nat}
theorem RBj.lt (h : RBj w p s C cv f m) : p < w.heap.size := by
  obtain ⟨t, h⟩ := h.box
  exact (Array.getElem?_eq_some_iff.1 h).1
theorem RBj.own (h : RBj w p s C cv f m) {b : Nat} (hb : cv.ownBlock = some b) : b < w.heap.size ∧ b ≠ p := by
  rcases h.row with ⟨-, rfl, -⟩ | ⟨g, rfl, h1, h2, -⟩
  · cases hb
  · have e : b = g := by simpa [Value.ownBlock] using hb.symm
    subst e
    exact ⟨(Array.getElem?_eq_some_iff.1 h2).1, h1⟩
theorem RBj.keep (h : RBj w p s C cv f m) (h1 : w'.heap[p]? = w.heap[p]?) (h2 : ∀ b, cv.ownBlock = some b → w'.heap[b]? = w.heap[b]?) : RBj w' p s C cv f m := by
  obtain ⟨t, hb⟩ := h.box
  refine ⟨⟨t, h1.trans hb⟩, ?_⟩
  rcases h.row with h3 | ⟨g, rfl, h3, h4, h5⟩
  · exact .inl h3
  · exact .inr ⟨g, rfl, h3, (h2 g rfl).trans h4, h5⟩
theorem RBj.below (h : RBj w p s C cv f m) (hb : Below w.heap.size w w') : RBj w' p s C cv f m :=
  h.keep (hb.block _ h.lt) (fun b hb' => hb.block b (h.own hb').1)
theorem RBj.c0 (h : RBj w p s C cv f m) : w.cell? ⟨p, 0, none⟩ = some (.int .i64 (s : Int)) := by
  obtain ⟨t, h⟩ := h.box
  simp [World.cell?, h]
theorem RBj.c1 (h : RBj w p s C cv f m) : w.cell? ⟨p, 1, none⟩ = some cv := by
  obtain ⟨t, h⟩ := h.box
  simp [World.cell?, h]
theorem RBj.c2 (h : RBj w p s C cv f m) : w.cell? ⟨p, 2, none⟩ = some (.int .i64 (f : Int)) := by
  obtain ⟨t, h⟩ := h.box
  simp [World.cell?, h]
theorem RBj.c3 (h : RBj w p s C cv f m) : w.cell? ⟨p, 3, none⟩ = some (.int .i64 (m : Int)) := by
  obtain ⟨t, h⟩ := h.box
  simp [World.cell?, h]
theorem RBj.fz (h : RBj w p s C cv f m) (k : Nat) : w.frozen? ⟨p, k, none⟩ = false := by
  obtain ⟨t, h⟩ := h.box
  simp [World.frozen?, h]
/-- One of its numbers is set. -/
theorem RBj.setF (h : RBj w p s C cv f m) (f' : Nat) (hf : f' < C.length ∨ f' = f) : RBj (w.setCell ⟨p, 2, none⟩ (.int .i64 (f' : Int))) p s C cv f' m := by
  obtain ⟨t, hb⟩ := h.box
  refine ⟨⟨t, by rw [heap_setCell_atc hb]; rfl⟩, ?_⟩
  rcases h.row with ⟨h1, h2, h3⟩ | ⟨g, h2, h3, h4, h5⟩
  · exact .inl ⟨h1, h2, by
      subst h1
      rcases hf with hf | hf
      · cases hf
      · exact hf.trans h3⟩
  · exact .inr ⟨g, h2, h3, (Below.heap_setCell _ _ _ _ h3).trans h4, by omega⟩
theorem RBj.setM (h : RBj w p s C cv f m) (m' : Nat) : RBj (w.setCell ⟨p, 3, none⟩ (.int .i64 (m' : Int))) p s C cv f m' := by
  obtain ⟨t, hb⟩ := h.box
  refine ⟨⟨t, by rw [heap_setCell_atc hb]; rfl⟩, ?_⟩
  rcases h.row with h1 | ⟨g, h2, h3, h4, h5⟩
  · exact .inl h1
  · exact .inr ⟨g, h2, h3, (Below.heap_setCell _ _ _ _ h3).trans h4, h5⟩
/-- Another row, from its head on. -/
theorem RBj.setC (h : RBj w p s C cv f m) {C' : List (Int × Int)} {g : Nat} (hg : w.heap[g]? = some (.cells (icl C').toArray 59 (0, 0))) (hn : g ≠ p) (h0 : 0 < C'.length) :
    RBj ((w.setCell ⟨p, 1, none⟩ (.slice (some ⟨g, 0, none⟩) C'.length C'.length)).setCell ⟨p, 2, none⟩ (.int .i64 0)) p s C' (.slice (some ⟨g, 0, none⟩) C'.length C'.length) 0 m := by
  obtain ⟨t, hb⟩ := h.box
  refine ⟨⟨t, ?_⟩, .inr ⟨g, rfl, hn, ?_, h0⟩⟩
  · rw [heap_setCell_atc (heap_setCell_atc hb _)]
    rfl
  · exact (Below.heap_setCell _ _ _ _ hn).trans ((Below.heap_setCell _ _ _ _ hn).trans hg)
/-- None at all. -/
theorem RBj.clr (h : RBj w p s C cv f m) : RBj (((w.setCell ⟨p, 1, none⟩ (.slice none 0 0)).setCell ⟨p, 2, none⟩ (.int .i64 0)).setCell ⟨p, 3, none⟩ (.int .i64 0)) p s [] (.slice none 0 0) 0 0 := by
  obtain ⟨t, hb⟩ := h.box
  refine ⟨⟨t, ?_⟩, .inl ⟨rfl, rfl, rfl⟩⟩
  rw [heap_setCell_atc (heap_setCell_atc (heap_setCell_atc hb _) _)]
  rfl
/-- A thing of its row is set. -/
theorem RBj.setX (h : RBj w p s C cv f m) {g : Nat} (hv : cv.ownBlock = some g) (k : Nat) (x : Int × Int) : RBj ((w.setCell ⟨g, k * 2, none⟩ (.int .i64 x.1)).setCell ⟨g, k * 2 + 1, none⟩ (.int .i64 x.2)) p s (C.set k x) cv f m := by
  obtain ⟨t, hb⟩ := h.box
  rcases h.row with ⟨-, rfl, -⟩ | ⟨g', rfl, h3, h4, h5⟩
  · cases hv
  · have e : g = g' := by simpa [Value.ownBlock] using hv.symm
    subst e
    refine ⟨⟨t, (Below.heap_setCell _ _ _ _ (fun e => h3 e.symm)).trans ((Below.heap_setCell _ _ _ _ (fun e => h3 e.symm)).trans hb)⟩, .inr ⟨g, by rw [List.length_set], h3, ?_, by rw [List.length_set]; exact h5⟩⟩
    rw [heap_setCell_atc (heap_setCell_atc h4 _), ← icl_set C k x]
    simp
theorem RBj.rc (h : RBj w p s C cv f m) {g : Nat} (hv : cv.ownBlock = some g) {k : Nat} {x : Int × Int} (hx : C[k]? = some x) : w.cell? ⟨g, k * 2, none⟩ = some (.int .i64 x.1) ∧ w.cell? ⟨g, k * 2 + 1, none⟩ = some (.int .i64 x.2) := by
  rcases h.row with ⟨-, rfl, -⟩ | ⟨g', rfl, h3, h4, h5⟩
  · cases hv
  · have e : g = g' := by simpa [Value.ownBlock] using hv.symm
    subst e
    obtain ⟨e1, e2⟩ := icl_at C k x hx
    exact ⟨by rw [cell_of_row _ _ _ _ _ _ h4]; simpa using e1, by rw [cell_of_row _ _ _ _ _ _ h4]; simpa using e2⟩
theorem RBj.rz (h : RBj w p s C cv f m) {g : Nat} (hv : cv.ownBlock = some g) (k : Nat) : w.frozen? ⟨g, k, none⟩ = false := by
  rcases h.row with ⟨-, rfl, -⟩ | ⟨g', rfl, h3, h4, h5⟩
  · cases hv
  · have e : g = g' := by simpa [Value.ownBlock] using hv.symm
    subst e
    simp [World.frozen?, h4]
end
theorem madej (n : Nat) (hn : n ≤ 4000) : ∀ w : World, (Instr.makeSlice 52 (.int .i64 (n : Int)) (.int .i64 (n : Int))).run Try.prog w = .ok (.slice (some ⟨w.heap.size, 0, none⟩) n n) (w.alloc (.cells (icl (List.replicate n (0, 0))).toArray 59)) := by
  intro w
  obtain ⟨i0, hi, hz0, hz1, hz2⟩ := info_parts Try.infoIt
  have := run_make (P := Try.prog) w 52 59 i0 (.agg #[.int .i64 0, .int .i64 0]) Try.underlying52 hi hz0 .i64 .i64 (n : Int) (n : Int) (by omega) (Int.le_refl _) (by rw [hz2]; omega) (by omega)
  rw [hz1] at this
  have e0 : ∀ u ∈ icl (List.replicate n (0, 0)), u = .int .i64 0 := by
    intro u hu
    simp only [icl, List.mem_flatMap] at hu
    obtain ⟨x, hx, hu⟩ := hu
    obtain rfl := (List.mem_replicate.1 hx).2
    simp at hu
    exact hu
  have e : madeCells #[Value.int .i64 0, .int .i64 0] (n * 2) = (icl (List.replicate n (0, 0))).toArray := by
    unfold madeCells
    apply Array.ext_getElem?
    intro k
    simp only [Array.getElem?_map, List.getElem?_toArray]
    by_cases hk : k < n * 2
    · have hl : k < (icl (List.replicate n (0, 0))).length := by rw [icl_len, List.length_replicate]; exact hk
      rw [List.getElem?_eq_getElem hl, e0 _ (List.getElem_mem hl)]
      have : k % 2 = 0 ∨ k % 2 = 1 := by omega
      rcases this with h | h <;> simp [hk, h]
    · rw [List.getElem?_eq_none (by rw [icl_len, List.length_replicate]; omega)]
      simp [hk]
  rw [← e]
  simpa [Value.cells] using this
/-- A ring: what it holds stands in its row, from the first thing on and round. -/
def RJ (w : World) (p : Nat) (cv : Value) (s : Nat) (M : List (Int × Int)) : Prop :=
  ∃ C f, RBj w p s C cv f M.length ∧ M.length ≤ C.length ∧ C.length ≤ 2000 ∧ (0 < s → C.length ≤ s) ∧ (∀ (k : Nat) x, M[k]? = some x → C[(f + k) % C.length]? = some x)
theorem RJ.lt {w : World} {p : Nat} {cv : Value} {s : Nat} {M : List (Int × Int)} (h : RJ w p cv s M) : p < w.heap.size ∧ ∀ b, cv.ownBlock = some b → b < w.heap.size ∧ b ≠ p := by
  obtain ⟨C, f, h1, -⟩ := h
  exact ⟨h1.lt, fun b hb => h1.own hb⟩
theorem RJ.keep {w w' : World} {p : Nat} {cv : Value} {s : Nat} {M : List (Int × Int)} (h : RJ w p cv s M) {X : Nat → Prop} (hk : Kx X w w') (hp : X p) (hv : ∀ b, cv.ownBlock = some b → X b) : RJ w' p cv s M := by
  obtain ⟨C, f, h1, rest⟩ := h
  exact ⟨C, f, h1.keep (hk.block p h1.lt hp) (fun b hb => hk.block b (h1.own hb).1 (hv b hb)), rest⟩
theorem RJ.full {w : World} {p : Nat} {cv : Value} {s : Nat} {M : List (Int × Int)} (h : RJ w p cv s M) : fullJ s M = (decide (0 < s) && decide (M.length = s)) := by
  obtain ⟨C, f, h1, h2, h3, h4, h5⟩ := h
  unfold fullJ
  by_cases e : 0 < s
  · have := h4 e
    by_cases e2 : M.length = s
    · rw [decide_eq_true e2, decide_eq_true (by omega : s ≤ M.length)]
    · rw [decide_eq_false e2, decide_eq_false (by omega : ¬ s ≤ M.length)]
  · rw [decide_eq_false e]; rfl
theorem RJ.fresh (w : World) (n : Nat) (t : TypeId) : RJ (w.alloc (.cells #[.int .i64 (n : Int), .slice none 0 0, .int .i64 0, .int .i64 0] t)) w.heap.size (.slice none 0 0) n [] :=
  ⟨[], 0, ⟨⟨t, heap_alloc_new w _⟩, .inl ⟨rfl, rfl, rfl⟩⟩, Nat.le_refl _, by simp, by simp, fun k x h => by simp at h⟩
set_option maxRecDepth 100000 in
set_option maxHeartbeats 1000000 in
theorem newj (n : Int) (w : World) : Calls Try.prog 39 #[.int .i64 n] w fun e w' => e = .returned (.pointer (some ⟨w.heap.size, 0, none⟩)) ∧ RJ w' w.heap.size (.slice none 0 0) n.toNat [] ∧ Below w.heap.size w w' ∧ w'.heap.size = w.heap.size + 1 := by
  obtain ⟨m, hm⟩ : ∃ m : Nat, n.toNat = m := ⟨_, rfl⟩
  rw [hm]
  by_cases h : 0 ≤ n
  · obtain rfl : n = (m : Int) := by omega
    clear hm
    go_enter Try.func39, Try.ntmps39
    go_wp2
    go_ret
    exact ⟨rfl, RJ.fresh w m _, (Below.refl _ _).alloc (Nat.le_refl _) _, by simp⟩
  · obtain rfl : m = 0 := by omega
    have h' : ¬ 0 ≤ n := h
    have h2 : n < 0 := by omega
    have hmx : max n 0 = 0 := by omega
    clear hm
    go_enter Try.func39, Try.ntmps39
    go_wp2
    go_ret
    exact ⟨rfl, RJ.fresh w 0 _, (Below.refl _ _).alloc (Nat.le_refl _) _, by simp⟩
set_option maxRecDepth 100000 in
set_option maxHeartbeats 1000000 in
theorem lenj {w : World} {p : Nat} {cv : Value} {s : Nat} {M : List (Int × Int)} (h : RJ w p cv s M) : Calls Try.prog 49 #[.pointer (some ⟨p, 0, none⟩)] w fun e w' => e = .returned (.int .i64 (M.length : Int)) ∧ w' = w := by
  obtain ⟨C, f, h1, -⟩ := h
  have c3 := h1.c3
  clear h1
  go_enter Try.func49, Try.ntmps49
  go_wp2
  go_ret
  exact ⟨rfl, rfl⟩
set_option maxRecDepth 100000 in
set_option maxHeartbeats 1000000 in
theorem slotsj {w : World} {p : Nat} {cv : Value} {s : Nat} {M : List (Int × Int)} (h : RJ w p cv s M) : Calls Try.prog 51 #[.pointer (some ⟨p, 0, none⟩)] w fun e w' => e = .returned (.int .i64 (s : Int)) ∧ w' = w := by
  obtain ⟨C, f, h1, -⟩ := h
  have c0 := h1.c0
  clear h1
  go_enter Try.func51, Try.ntmps51
  go_wp2
  go_ret
  exact ⟨rfl, rfl⟩
set_option maxRecDepth 100000 in
set_option maxHeartbeats 1000000 in
theorem fullj {w : World} {p s : Nat} {C : List (Int × Int)} {cv : Value} {f m : Nat} (h1 : RBj w p s C cv f m) (b : Bool) (hb : b = (decide (0 < s) && decide (m = s))) : Calls Try.prog 48 #[.pointer (some ⟨p, 0, none⟩)] w fun e w' => e = .returned (.bool b) ∧ ∃ n, w' = w.drewN n := by
  have c0 := h1.c0
  have c3 := h1.c3
  clear h1
  by_cases hs : 0 < s
  · have d1 : decide ((0 : Int) < (s : Int)) = true := by simpa using hs
    have d3 : decide (0 < s) = true := by simpa using hs
    have d2 : ((m : Int) == (s : Int)) = b := by
      rw [hb, decide_eq_true hs, Bool.true_and]
      by_cases e : m = s
      · subst e; simp
      · rw [decide_eq_false e]; simp; omega
    clear hb hs
    go_enter Try.func48, Try.ntmps48
    go_wp2
    go_quiet (fail)
    go_wp2
    go_ret
    exact ⟨rfl, _, rfl⟩
  · obtain rfl : s = 0 := by omega
    obtain rfl : b = false := by rw [hb]; rfl
    clear hb hs
    go_enter Try.func48, Try.ntmps48
    go_wp2
    go_quiet (fail)
    go_wp2
    go_ret
    exact ⟨rfl, _, rfl⟩
theorem srcj {w : World} {g o : Nat} {C : List (Int × Int)} (h : w.heap[g]? = some (.cells (icl C).toArray 59 (0, 0))) (L : List (Int × Int)) (hL : ∀ (k : Nat) x, L[k]? = some x → C[o + k]? = some x) : ∀ j v, (icl L)[j]? = some v → w.cell? ((⟨g, o * 2, none⟩ : Addr).add j) = some v := by
  intro j v hv
  rw [add_atc, cell_of_row _ _ _ _ _ _ h]
  have hj := (List.getElem?_eq_some_iff.1 hv).1
  rw [icl_len] at hj
  obtain ⟨k, hk⟩ : ∃ k, j = k * 2 ∨ j = k * 2 + 1 := ⟨j / 2, by omega⟩
  have hkl : k < L.length := by omega
  have hx := List.getElem?_eq_getElem hkl
  obtain ⟨e1, e2⟩ := icl_at L k _ hx
  obtain ⟨e3, e4⟩ := icl_at C (o + k) _ (hL k _ hx)
  rw [Nat.add_mul] at e3 e4
  rcases hk with rfl | rfl
  · rw [e1] at hv; cases hv; simpa using e3
  · rw [e2] at hv; cases hv; simpa [Nat.add_assoc] using e4
set_option maxRecDepth 100000 in
set_option maxHeartbeats 1000000 in
/-- A new row of so many cells. -/
theorem rowj {w : World} {p s : Nat} {C : List (Int × Int)} {cv : Value} {f m : Nat} (h1 : RBj w p s C cv f m) (hC : C.length ≤ 2000) (n : Nat) (hn : n ≤ 4000) : Calls Try.prog 57 #[.pointer (some ⟨p, 0, none⟩), .int .i64 (n : Int)] w fun e w' => e = .returned (.slice (some ⟨w.heap.size, 0, none⟩) n n) ∧ w'.heap[w.heap.size]? = some (.cells (icl (rowOf (0, 0) C f n)).toArray 59 (0, 0)) ∧ Below w.heap.size w w' := by
  have hmk := madej n hn
  obtain ⟨Z, hZ⟩ : ∃ Z, Z = icl (List.replicate n (0, 0)) := ⟨_, rfl⟩
  rw [← hZ] at hmk
  have hZl : Z.length = n * 2 := by rw [hZ, icl_len, List.length_replicate]
  obtain ⟨X1, hX1⟩ : ∃ X1, X1 = (C.drop f).take n := ⟨_, rfl⟩
  obtain ⟨X2, hX2⟩ : ∃ X2, X2 = (C.take f).take (n - X1.length) := ⟨_, rfl⟩
  have HE : Hid (icl (rowOf (0, 0) C f n) = splice (splice Z 0 (icl X1)) (X1.length * 2) (icl X2)) := hide (by
    rw [hZ, hX2, hX1]
    unfold rowOf
    rw [icl_splice, icl_splice])
  have hl1 : X1.length = Nat.min (C.length - f) n := by rw [hX1, List.length_take, List.length_drop]; exact Nat.min_comm _ _
  have hl2 : X2.length = Nat.min f (n - X1.length) := by
    rw [hX2, List.length_take, List.length_take]
    rcases h1.row with ⟨rfl, rfl, rfl⟩ | ⟨g, -, -, -, hf⟩
    · simp
    · show min _ (min _ _) = min _ _
      omega
  rcases h1.row with ⟨rfl, rfl, rfl⟩ | ⟨g, rfl, hgp, hg, hf⟩
  · have HG0 : Hid ((w.alloc (.cells Z.toArray 59)).heap[w.heap.size]? = some (.cells Z.toArray 59 (0, 0))) := hide (heap_alloc_new w _)
    have hb0 : Below w.heap.size w (w.alloc (.cells Z.toArray 59)) := (Below.refl _ _).alloc (Nat.le_refl _) _
    obtain ⟨W, hW⟩ : ∃ W, w.alloc (.cells Z.toArray 59) = W := ⟨_, rfl⟩
    have hmk' := hmk w
    rw [hW] at HG0 hb0 hmk'
    have hr := h1.below hb0
    have c1 := hr.c1
    have c2 : W.cell? ⟨p, 2, none⟩ = some (.int .i64 0) := hr.c2
    have HC1 := hide h1.c1
    have HC2 : Hid (w.cell? ⟨p, 2, none⟩ = some (.int .i64 0)) := hide h1.c2
    have HB0 := hide hb0
    obtain rfl : X1 = [] := by rw [hX1]; simp
    obtain rfl : X2 = [] := by rw [hX2]; simp
    have HE2 : Hid (icl (rowOf (0, 0) [] 0 n) = Z) := hide (by rw [HE.out]; simp [icl, splice])
    clear hW hZ hX1 hX2 hmk h1 hr hb0 hl1 hl2 hZl HE
    go_enter Try.func57, Try.ntmps57
    go_wp2
    go_region_held_law (fun w' => w'.cell? ⟨p, 1, none⟩ = some (.slice none 0 0) ∧ w'.cell? ⟨p, 2, none⟩ = some (.int .i64 0)) (first | exact ⟨by assumption, by assumption⟩ | go_keep) ((refine step_copy_splicez rfl (.tmp 9) (.tmp 18) 52 52 rfl 59 Try.underlying52 2 Try.sizej _ _ _ _ _ _ rfl rfl w.heap.size 0 Z 59 (by exact HG0.out) [] 0 (Nat.zero_min _).symm rfl (fun h => absurd h (Nat.lt_irrefl 0)) (Nat.zero_le _) (fun _ h => absurd h List.not_mem_nil) w.heap.size w (by exact below_drewN HB0.out 1) (Nat.le_refl _) ?_; intro w4 hg4 hb4; have d1 := bsome hb4 HC1.out; have d2 := bsome hb4 HC2.out; have HG4 : Hid (w4.heap[w.heap.size]? = some (.cells Z.toArray 59 (0, 0))) := hide (by have h := hg4.out; rwa [splice_nil] at h); have HB4 := hide hb4; clear hb4 hg4; (try simp only [Act.put, List.getElem_toArray, List.getElem_cons_succ, List.getElem_cons_zero, List.setIfInBounds_toArray, List.set_cons_zero, List.set_cons_succ])))
    go_wp2
    clear c1 c2 hmk'
    go_region_held_law (fun w' => w'.cell? ⟨p, 1, none⟩ = some (.slice none 0 0) ∧ w'.cell? ⟨p, 2, none⟩ = some (.int .i64 0)) (first | exact ⟨by assumption, by assumption⟩ | go_keep) ((refine step_copy_splicez rfl (.tmp 22) (.tmp 31) 52 52 rfl 59 Try.underlying52 2 Try.sizej _ _ _ _ _ _ rfl rfl w.heap.size 0 Z 59 (by exact HG4.out) [] 0 (Nat.zero_min _).symm rfl (fun h => absurd h (Nat.lt_irrefl 0)) (Nat.zero_le _) (fun _ h => absurd h List.not_mem_nil) w.heap.size w (by exact below_drewN HB4.out 1) (Nat.le_refl _) ?_; intro w5 hg5 hb5; have d1 := bsome hb5 HC1.out; have d2 := bsome hb5 HC2.out; have HG5 : Hid (w5.heap[w.heap.size]? = some (.cells Z.toArray 59 (0, 0))) := hide (by have h := hg5.out; rwa [splice_nil] at h); have HB5 := hide hb5; clear hb5 hg5; (try simp only [Act.put, List.getElem_toArray, List.getElem_cons_succ, List.getElem_cons_zero, List.setIfInBounds_toArray, List.set_cons_zero, List.set_cons_succ])))
    go_wp2
    go_ret
    exact ⟨rfl, by rw [HE2.out]; exact HG5.out, HB5.out⟩
  · have HG0 : Hid ((w.alloc (.cells Z.toArray 59)).heap[w.heap.size]? = some (.cells Z.toArray 59 (0, 0))) := hide (heap_alloc_new w _)
    have hb0 : Below w.heap.size w (w.alloc (.cells Z.toArray 59)) := (Below.refl _ _).alloc (Nat.le_refl _) _
    obtain ⟨W, hW⟩ : ∃ W, w.alloc (.cells Z.toArray 59) = W := ⟨_, rfl⟩
    have hmk' := hmk w
    rw [hW] at HG0 hb0 hmk'
    have hr := h1.below hb0
    have c1 := hr.c1
    have c2 := hr.c2
    have HC1 := hide h1.c1
    have HC2 := hide h1.c2
    have HD := hide (fun (k : Nat) x (hx : X1[k]? = some x) => show C[f + k]? = some x by
      rw [hX1, List.getElem?_take] at hx
      split at hx
      · rwa [List.getElem?_drop] at hx
      · cases hx)
    have HT := hide (fun (k : Nat) x (hx : X2[k]? = some x) => show C[0 + k]? = some x by
      rw [hX2, List.getElem?_take] at hx
      split at hx
      · rw [List.getElem?_take] at hx
        split at hx
        · rwa [Nat.zero_add]
        · cases hx
      · cases hx)
    have HGL := hide (And.intro (Array.getElem?_eq_some_iff.1 hg).1 hg)
    have HGS := hide (show W.heap[g]? = _ from (hb0.block g (Array.getElem?_eq_some_iff.1 hg).1).trans hg)
    have HB0 := hide hb0
    have HL1 := hide hl1
    have HL2 := hide hl2
    have HZ := hide hZl
    have hf1 : f ≤ C.length := by omega
    have hf2 : ¬ C.length = f := by omega
    clear hW hZ hX1 hX2 hmk h1 hr hb0 hg hl1 hl2 hZl
    go_enter Try.func57, Try.ntmps57
    go_wp2
    go_region_held_law (fun w' => w'.cell? ⟨p, 1, none⟩ = some (.slice (some ⟨g, 0, none⟩) C.length C.length) ∧ w'.cell? ⟨p, 2, none⟩ = some (.int .i64 (f : Int))) (first | exact ⟨by assumption, by assumption⟩ | go_keep) ((refine step_copy_splicez rfl (.tmp 9) (.tmp 18) 52 52 rfl 59 Try.underlying52 2 Try.sizej _ _ _ _ _ _ rfl rfl w.heap.size 0 Z 59 (by exact HG0.out) (icl X1) X1.length HL1.out (icl_len X1) (fun _ => ⟨rfl, _, rfl, srcj HGS.out X1 HD.out⟩) (by rw [icl_len, HZ.out, HL1.out, Nat.zero_add]; exact Nat.mul_le_mul_right 2 (Nat.min_le_right _ _)) (icl_one X1) w.heap.size w (HB0.out.trans (below_drewN (Below.refl _ _) 1)) (Nat.le_refl _) ?_; intro w4 hg4 hb4; have d1 := bsome hb4 HC1.out; have d2 := bsome hb4 HC2.out; have HB4 := hide hb4; clear hb4; (try simp only [Act.put, List.getElem_toArray, List.getElem_cons_succ, List.getElem_cons_zero, List.setIfInBounds_toArray, List.set_cons_zero, List.set_cons_succ])))
    go_wp2
    have hq1 : X1.length ≤ n := by rw [HL1.out]; exact Nat.min_le_right _ _
    have HF2 : Hid (X1.length * 2 + (icl X2).length ≤ (splice Z 0 (icl X1)).length) := hide (by
      rw [length_splice _ _ _ (by rw [icl_len, HZ.out, Nat.zero_add]; exact Nat.mul_le_mul_right 2 hq1), HZ.out, icl_len, HL2.out]
      have := Nat.min_le_right f (n - X1.length)
      change X1.length * 2 + (min f (n - X1.length)) * 2 ≤ n * 2
      omega)
    have HGS4 : Hid (w4.heap[g]? = _) := hide ((HB4.out.block g HGL.out.1).trans HGL.out.2)
    clear c1 c2 hmk' HB0 HG0 HGS HZ HL1
    by_cases hq2 : n = X1.length
    · have HL20 : Hid (X2.length = f.min 0) := hide (by rw [HL2.out, ← hq2, Nat.sub_self])
      have HL00 : Hid (X2.length = 0) := hide (by rw [HL20.out]; exact Nat.min_zero f)
      go_region_held_law (fun w' => w'.cell? ⟨p, 1, none⟩ = some (.slice (some ⟨g, 0, none⟩) C.length C.length) ∧ w'.cell? ⟨p, 2, none⟩ = some (.int .i64 (f : Int))) (first | exact ⟨by assumption, by assumption⟩ | go_keep) ((refine step_copy_splicez rfl (.tmp 22) (.tmp 31) 52 52 rfl 59 Try.underlying52 2 Try.sizej _ _ _ _ _ _ rfl rfl w.heap.size (X1.length * 2) (splice Z 0 (icl X1)) 59 (by exact hg4.out) (icl X2) X2.length HL20.out (icl_len X2) (fun h0 => absurd h0 (by rw [HL00.out]; exact Nat.lt_irrefl 0)) HF2.out (icl_one X2) w.heap.size w (by exact below_drewN HB4.out 1) (Nat.le_refl _) ?_; intro w5 hg5 hb5; have e1 := bsome hb5 HC1.out; have e2 := bsome hb5 HC2.out; have HB5 := hide hb5; clear hb5; (try simp only [Act.put, List.getElem_toArray, List.getElem_cons_succ, List.getElem_cons_zero, List.setIfInBounds_toArray, List.set_cons_zero, List.set_cons_succ])))
      go_wp2
      go_ret
      exact ⟨rfl, by rw [HE.out]; exact hg5.out, HB5.out⟩
    · go_region_held_law (fun w' => w'.cell? ⟨p, 1, none⟩ = some (.slice (some ⟨g, 0, none⟩) C.length C.length) ∧ w'.cell? ⟨p, 2, none⟩ = some (.int .i64 (f : Int))) (first | exact ⟨by assumption, by assumption⟩ | go_keep) ((refine step_copy_splicez rfl (.tmp 22) (.tmp 31) 52 52 rfl 59 Try.underlying52 2 Try.sizej _ _ _ _ _ _ rfl rfl w.heap.size (X1.length * 2) (splice Z 0 (icl X1)) 59 (by exact hg4.out) (icl X2) X2.length HL2.out (icl_len X2) (fun _ => ⟨rfl, _, rfl, srcj HGS4.out X2 HT.out⟩) HF2.out (icl_one X2) w.heap.size w (by exact below_drewN HB4.out 1) (Nat.le_refl _) ?_; intro w5 hg5 hb5; have e1 := bsome hb5 HC1.out; have e2 := bsome hb5 HC2.out; have HB5 := hide hb5; clear hb5; (try simp only [Act.put, List.getElem_toArray, List.getElem_cons_succ, List.getElem_cons_zero, List.setIfInBounds_toArray, List.set_cons_zero, List.set_cons_succ])))
      go_wp2
      go_ret
      exact ⟨rfl, by rw [HE.out]; exact hg5.out, HB5.out⟩
end Go.Proofs.Ytbepaimbbclejaa

import Derived.Test.YtfngmdebmedkjadPthN
/- Rows of marks; what is come to, by going over all again and again. -/
namespace Go.Proofs.Ytfngmdebmedkjad
open Go.RowKit

theorem Try.info4 : (Try.prog.info? 4).map (fun i => (i.zero, i.size, i.bytes)) = some (some (.bool false), 1, 1) := by kernel_rfl
/-- A row of marks that is written in place. -/
structure BR (ga : Nat) (w : World) (B : List Bool) : Prop where
  cell : ∀ (k : Nat) x, B[k]? = some x → w.cell? ⟨ga, k, none⟩ = some (.bool x)
  thaw : ∀ k, w.frozen? ⟨ga, k, none⟩ = false
  lt : ga < w.heap.size
theorem BR.keep {ga : Nat} {w w' : World} {B : List Bool} (h : BR ga w B) (hb : w'.heap[ga]? = w.heap[ga]?) (hs : w.heap.size ≤ w'.heap.size) : BR ga w' B :=
  ⟨fun k x hx => (World.cell?_of_block (w := w) (a := ⟨ga, k, none⟩) hb).trans (h.cell k x hx), fun k => (World.frozen?_of_block (w := w) (a := ⟨ga, k, none⟩) hb).trans (h.thaw k), by have := h.lt; omega⟩
theorem BR.below {ga : Nat} {w w' : World} {B : List Bool} (h : BR ga w B) (hb : Below w.heap.size w w') : BR ga w' B := h.keep (hb.block ga h.lt) hb.size
theorem BR.set {ga : Nat} {w : World} {B : List Bool} (h : BR ga w B) {v : Nat} {x : Bool} (hv : B[v]? = some x) (y : Bool) : BR ga (w.setCell ⟨ga, v, none⟩ (.bool y)) (B.set v y) := by
  have hc := h.cell v x hv
  refine ⟨fun k z hz => ?_, fun k => ?_, by simpa [World.setCell] using h.lt⟩
  · by_cases e : k = v
    · subst e
      rw [List.getElem?_set_self (List.getElem?_eq_some_iff.1 hv).1] at hz
      cases hz
      simp [go_sem, hc]
    · rw [List.getElem?_set_ne (by omega)] at hz
      have := h.cell k z hz
      simp [go_sem, this]
  · have := h.thaw k
    simp [go_sem, this]
theorem madeB_get (n k : Nat) (h : k < n) : (madeCells #[Value.bool false] n)[k]? = some (.bool false) := by
  unfold madeCells
  rw [Array.getElem?_map]
  simp [h, Nat.mod_one]
theorem make_bools (n : Nat) (hn : n ≤ 300) : ∃ Z : Array Value, (∀ k, k < n → Z[k]? = some (.bool false)) ∧ ∀ w : World, (Instr.makeSlice 47 (.int .i64 (n : Int)) (.int .i64 (n : Int))).run Try.prog w = .ok (.slice (some ⟨w.heap.size, 0, none⟩) n n) (w.alloc (.cells Z 4)) := by
  obtain ⟨i0, hi, hz0, hz1, hz2⟩ := info_parts Try.info4
  refine ⟨madeCells #[Value.bool false] n, madeB_get n, fun w => ?_⟩
  have := run_make (P := Try.prog) w 47 4 i0 (.bool false) Try.underlying47 hi hz0 .i64 .i64 (n : Int) (n : Int) (by omega) (Int.le_refl _) (by rw [hz2]; omega) (by omega)
  rw [hz1] at this
  simpa [Value.cells] using this
theorem br_new (w : World) (Z : Array Value) (n : Nat) (hZ : ∀ k, k < n → Z[k]? = some (.bool false)) : BR w.heap.size (w.alloc (.cells Z 4)) (List.replicate n false) := by
  refine ⟨fun k x hx => ?_, fun k => by simp [go_sem], by simp⟩
  rw [List.getElem?_replicate] at hx
  split at hx
  · rename_i hk
    cases hx
    have := hZ k hk
    simp [go_sem, this]
  · cases hx
def rdB (w : World) (g k : Nat) : Bool := match w.cell? ⟨g, k, none⟩ with
  | some (.bool x) => x
  | _ => false
def msrB (w : World) (g n : Nat) : Nat := Pa.nots ((List.range n).map (rdB w g))
theorem msrB_is {g : Nat} {w : World} {B : List Bool} (h : BR g w B) : msrB w g B.length = Pa.nots B := by
  unfold msrB
  congr 1
  apply List.ext_getElem?
  intro k
  by_cases hk : k < B.length
  · have h1 := h.cell k _ (List.getElem?_eq_getElem hk)
    rw [List.getElem?_map, List.getElem?_range hk, List.getElem?_eq_getElem hk]
    simp [rdB, h1]
  · rw [List.getElem?_eq_none (by simp; omega), List.getElem?_eq_none (by omega)]
def ShutToB (p : Pa.Pr) (B : List Bool) (i : Nat) : Prop := ∀ j k : Nat, j < i → B[j]? = some true → k ∈ nxp p j → B[k]? = some true
theorem shutB_all {p : Pa.Pr} {B : List Bool} (h : ShutToB p B p.length) : Pa.ShutB (nxp p) B := fun i k hi hk => h i k (by have := Pa.on_in hk; omega) hi hk
def Shut1B (p : Pa.Pr) (B : List Bool) (i : Nat) (v : Int) : Prop := ∀ k : Nat, (k : Int) = v → B[i]? = some true → k ∈ nxp p i → B[k]? = some true
theorem shutB_next {p : Pa.Pr} {B : List Bool} {i : Nat} {x : Int × Int} (hx : p[i]? = some x) (h : ShutToB p B i) (h1 : Shut1B p B i ((i : Int) + 1)) (h2 : Shut1B p B i x.2) : ShutToB p B (i + 1) := by
  intro j k hj ha hk
  by_cases e : j = i
  · subst e
    rcases on_two hx hk with h3 | h3
    · exact h1 k h3 ha hk
    · exact h2 k h3 ha hk
  · exact h j k (by omega) ha hk
structure PB (p : Pa.Pr) (B0 B : List Bool) (m : Bool) (i : Nat) : Prop where
  rc : Pa.Rc (nxp p) p.length B
  le : Pa.nots B ≤ Pa.nots B0
  lt : m = true → Pa.nots B < Pa.nots B0
  eq : m = false → B = B0 ∧ ShutToB p B0 i
theorem PB.more {p : Pa.Pr} {B0 B : List Bool} {m : Bool} {i : Nat} (h : PB p B0 B m i) {v : Nat} (hv : v ∈ nxp p i) (hi : B[i]? = some true) (hn : B[v]? = some false) : PB p B0 (B.set v true) true i := by
  have h1 := h.rc.more hi hv
  have h2 := Pa.nots_set B v hn
  have := h.le
  exact ⟨h1, by omega, fun _ => by omega, fun e => by cases e⟩
/-- What is marked, up to some number. -/
def mks (B : List Bool) (k : Nat) : List Nat := (List.range k).filter fun (v : Nat) => B[v]? == some true
theorem mks_len (B : List Bool) (k : Nat) : (mks B k).length ≤ k := by
  have := List.length_filter_le (fun (v : Nat) => B[v]? == some true) (List.range k)
  unfold mks
  simpa using this
theorem mks_yes {B : List Bool} {k : Nat} (h : B[k]? = some true) : mks B (k + 1) = mks B k ++ [k] := by
  unfold mks
  rw [List.range_succ, List.filter_append]
  simp [h]
theorem mks_no {B : List Bool} {k : Nat} (h : B[k]? = some false) : mks B (k + 1) = mks B k := by
  unfold mks
  rw [List.range_succ, List.filter_append]
  simp [h]
/-- Both tell the same. -/
theorem mks_rcs {p : Pa.Pr} {ah : List Int} {B : List Bool} (h : SPR p 0 ah) (hr : Pa.Rc (nxp p) p.length B) (hs : Pa.ShutB (nxp p) B) : mks B p.length = rcs ah p.length := by
  unfold mks rcs
  apply List.filter_congr
  intro v hv
  have hvn : v < p.length := by simpa using hv
  obtain ⟨ln, g, hi⟩ := h.2.2 0 rfl (by omega)
  rw [Bool.eq_iff_iff]
  constructor
  · intro hb
    have hb' : B[v]? = some true := by simpa using hb
    obtain ⟨l, hl⟩ := hr.sound v hb'
    have := (hi.mem v hvn).1 (hi.best hl).1
    simpa using this
  · intro hb
    have hb' : ah[v]? ≠ some (-1) := by simpa using hb
    obtain ⟨j, hj⟩ := List.getElem?_of_mem ((hi.mem v hvn).2 hb')
    have := hr.all hs (by omega) (hi.way j v hj)
    simpa using this
end Go.Proofs.Ytfngmdebmedkjad

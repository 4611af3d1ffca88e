/- The library's sort over a row of faults that the caller owns, with the comparison that Order hands it. -/
import Derived.Test.YtmenmlkclggjjaaDoorShelf
import Derived.Test.YtmenmlkclggjjaaDoorCompactF
import Derived.Shelf.SlSortCmp.NoneTotal
namespace Go.Proofs.YtmenmlkclggjjaaDoor
open Go.RowKit

/-- A fault's two cells. -/
def encF (x : Int × Int) : List Value := [.int .i64 x.1, .int .i64 x.2]
/-- What the comparison says. -/
def cmpI (a b : Int) : Int := if a < b then -1 else if b < a then 1 else 0
def cmpF (x y : Int × Int) : Int := if x.2 = y.2 then cmpI x.1 y.1 else cmpI x.2 y.2

theorem ltOf_cmpF (x y : Int × Int) : ltOf cmpF x y = Pl.flt x y := by
  unfold ltOf cmpF cmpI Pl.flt
  by_cases h : x.2 = y.2
  · rw [if_pos h]
    by_cases h1 : x.1 < y.1
    · simp [h, h1]
    · by_cases h2 : y.1 < x.1 <;> simp [h, h1, h2]
  · rw [if_neg h]
    by_cases h1 : x.2 < y.2
    · simp [h1]
    · by_cases h2 : y.2 < x.2 <;> simp [h, h1, h2]

set_option maxHeartbeats 400000 in
theorem cmp_any (a b : Int) (w : World) : Calls Tryd.prog 26 #[.int .i64 a, .int .i64 b] w fun e w' => e = .returned (.int .i64 (cmpI a b)) ∧ w' = w := by
  unfold cmpI
  by_cases h1 : a < b
  · rw [if_pos h1]
    go_enter Tryd.func26, Tryd.ntmps26
    go_wp2
    go_ret
    exact ⟨rfl, rfl⟩
  · rw [if_neg h1]
    by_cases h2 : b < a
    · rw [if_pos h2]
      go_enter Tryd.func26, Tryd.ntmps26
      go_wp2
      go_ret
      exact ⟨rfl, rfl⟩
    · rw [if_neg h2]
      go_enter Tryd.func26, Tryd.ntmps26
      go_wp2
      go_ret
      exact ⟨rfl, rfl⟩

set_option maxHeartbeats 400000 in
/-- Order's comparison: two blocks are laid. -/
theorem closure25 (x y : Int × Int) (W : World) : Calls Tryd.prog 25 #[.agg #[.int .i64 x.1, .int .i64 x.2], .agg #[.int .i64 y.1, .int .i64 y.2]] W fun e w' => e = .returned (.int .i64 (cmpF x y)) ∧ ∃ q os', w' = Go.Sort.grow (W.drewN q) os' := by
  unfold cmpF
  by_cases h : x.2 = y.2
  · rw [if_pos h]
    have hb : (x.2 != y.2) = false := by simp [h]
    have H := hide h
    clear h
    have hcon := fun W' => cmp_any x.1 y.1 W'
    generalize cmpI x.1 y.1 = r at hcon ⊢
    go_enter Tryd.func25, Tryd.ntmps25
    go_wp2_with (go_at_call 26; refine (hcon _).mono ?_; rintro e w' ⟨rfl, rfl⟩)
    go_ret
    exact ⟨rfl, 0, _, by rw [Go.Sort.alloc_eq_grow, Go.Sort.alloc_eq_grow, Go.Sort.grow_grow]; rfl⟩
  · rw [if_neg h]
    have hb : (x.2 != y.2) = true := by simp [h]
    have H := hide h
    clear h
    have hcon := fun W' => cmp_any x.2 y.2 W'
    generalize cmpI x.2 y.2 = r at hcon ⊢
    go_enter Tryd.func25, Tryd.ntmps25
    go_wp2_with (go_at_call 26; refine (hcon _).mono ?_; rintro e w' ⟨rfl, rfl⟩)
    go_ret
    exact ⟨rfl, 0, _, by rw [Go.Sort.alloc_eq_grow, Go.Sort.alloc_eq_grow, Go.Sort.grow_grow]; rfl⟩

theorem cmpLays25 (blk off size : Nat) (w : World) : CmpLays Tryd.prog 25 #[] encF 2 cmpF blk off size w :=
  fun _ _ _ _ x y => closure25 x y _

theorem swoF : Go.Sort.SWO (ltOf cmpF) where
  irrefl x := by rw [ltOf_cmpF]; exact Pl.flt_irrefl x
  trans x y z h1 h2 := by rw [ltOf_cmpF] at *; exact Pl.flt_trans h1 h2
  ntrans x y z h1 h2 := by
    rw [ltOf_cmpF, Pl.flt_no] at *
    omega

theorem holds_of {w : World} {g cap : Nat} {F : List (Int × Int)} (hS : Shape w g cap) (hn : F.length ≤ cap) (hF : FAt w g 0 F) : Go.Sort.HoldsK encF 2 w g 0 F.toArray := by
  intro j hj
  have hj' : j < F.length * 2 := by simpa using hj
  refine ⟨?_, (hS.cell (0 + j) (by omega)).2⟩
  rw [Go.Sort.get_flatK encF 2 F.toArray j (by simpa using hj'), arr_get F (j / 2) (by omega)]
  obtain ⟨a, b⟩ := hF (j / 2) (by omega)
  rcases Nat.mod_two_eq_zero_or_one j with e | e
  · rw [show 0 + j / 2 * 2 = 0 + j from by omega] at a
    rw [a, e]; rfl
  · rw [show 0 + j / 2 * 2 + 1 = 0 + j from by omega] at b
    rw [b, e]; rfl

theorem fat_of {w : World} {g : Nat} {d : Array (Int × Int)} (h : Go.Sort.HoldsK encF 2 w g 0 d) : FAt w g 0 d.toList := by
  intro i hi
  have hi' : i < d.size := by simpa using hi
  have e : d.toList[i]?.getD (0, 0) = d[i]! := by
    have := arr_get d.toList i hi
    rw [← this]
  rw [e]
  exact ⟨by have := (h.cell hi' (show 0 < 2 by decide)).1; simpa [encF] using this, by have := (h.cell hi' (show 1 < 2 by decide)).1; simpa [encF] using this⟩

theorem heap_sort {w : World} {g : Nat} (n : Nat) (d : Array (Int × Int)) (os : Array Obj) (k : Nat) (hk : k < w.heap.size) :
    (sortWorldK encF 2 w g 0 n d os).heap[k]? = if g = k then (w.heap[k]?).map (Go.Sort.onCells (Go.Sort.putCells id 0 (Go.Sort.flatK encF 2 d))) else w.heap[k]? := by
  show ((w.heap.modify g (Go.Sort.onCells (Go.Sort.putCells id 0 (Go.Sort.flatK encF 2 d)))) ++ os)[k]? = _
  rw [Array.getElem?_append_left (by simpa using hk), Array.getElem?_modify]

theorem shape_sort {w : World} {g cap : Nat} (hS : Shape w g cap) (hg : g < w.heap.size) (n : Nat) (d : Array (Int × Int)) (os : Array Obj) : Shape (sortWorldK encF 2 w g 0 n d os) g cap := by
  obtain ⟨cur, h1, h2⟩ := hS
  refine ⟨Go.Sort.putCells id 0 (Go.Sort.flatK encF 2 d) cur, ?_, by simpa [Go.Sort.putCells] using h2⟩
  rw [heap_sort n d os g hg, if_pos rfl, h1]
  rfl

theorem below_sort {w : World} {B g : Nat} (hB : B ≤ g) (hg : g < w.heap.size) (n : Nat) (d : Array (Int × Int)) (os : Array Obj) : Below B w (sortWorldK encF 2 w g 0 n d os) := by
  refine ⟨rfl, rfl, rfl, ?_, fun k hk => ?_⟩
  · show w.heap.size ≤ ((w.heap.modify g (Go.Sort.onCells (Go.Sort.putCells id 0 (Go.Sort.flatK encF 2 d)))) ++ os).size
    simp
  · rw [heap_sort n d os k (by omega), if_neg (by omega)]

theorem sort_some (B g cap : Nat) (F : List (Int × Int)) (w : World) (hl : F.length ≤ 300) (hB : B ≤ g) (hg : g < w.heap.size) (hn : F.length ≤ cap) (hm : cap ≤ maxLen) (hS : Shape w g cap) (hF : FAt w g 0 F) :
    Calls Tryd.prog 24 #[.slice (some ⟨g, 0, none⟩) F.length cap, .func (.func 25) #[] #[]] w fun e w' => e = .returned (.tuple #[]) ∧ ∃ F' : List (Int × Int), F'.Perm F ∧ (∀ i j, i < j → j < F'.length → Pl.flt (F'[j]?.getD (0, 0)) (F'[i]?.getD (0, 0)) = false) ∧
      w'.ownsRow B 24 2 (.slice (some ⟨g, 0, none⟩) F.length cap) F'.length (fcells F') ∧ Below B w w' := by
  have eg : ∀ args w, (callFunc 25 args).run Tryd.prog w = .ok (.enter 25 args) w := enters_of Tryd.func25 (by kernel_rfl) rfl
  have hH := holds_of hS hn hF
  have hcon := AnyQ.slices_SortFunc Tryd.sortF 2 Tryd.isAgg24 Tryd.sizeOf24 encF (fun _ => rfl) (fun x v hv => by simp [encF] at hv; rcases hv with rfl | rfl <;> rfl) cmpF swoF 25 #[] g 0 cap F.toArray w eg (cmpLays25 g 0 F.toArray.size w) hH hg (by simp; omega)
  change Calls Tryd.prog 24 _ _ _ at hcon
  refine hcon.mono ?_
  rintro e w' ⟨rfl, d', n, os, hp, hs, rfl⟩
  obtain ⟨hps, _, hpp⟩ := hp
  have hds : d'.size = F.length := by simpa using hps
  refine ⟨rfl, d'.toList, ?_, ?_, ?_, below_sort hB hg n d' os⟩
  · rw [Array.toList_extract, Array.toList_extract] at hpp
    simpa [hds, List.take_of_length_le] using hpp
  · intro i j hij hj
    have hj' : j < d'.size := by simpa using hj
    have := hs i j (Nat.zero_le _) hij (by simpa [hds] using hj')
    rw [ltOf_cmpF] at this
    rw [← arr_get d'.toList i (by simp; omega), ← arr_get d'.toList j hj]
    exact this
  · have hH' : Go.Sort.HoldsK encF 2 (sortWorldK encF 2 w g 0 n d' os) g 0 d' :=
      Go.Sort.holdsK_grow encF 2 _ os g 0 d' (by show g < (w.heap.modify g (Go.Sort.onCells (Go.Sort.putCells id 0 (Go.Sort.flatK encF 2 d')))).size; simpa using hg) (Go.Sort.holdsK_putRowK encF 2 _ g 0 F.toArray d' (Go.Sort.holdsK_ahead encF 2 w n g 0 F.toArray hH) (by simpa using hds))
    have := own_of_cells (B := B) (shape_sort hS hg n d' os) hB (by simp [hds]; exact hn) hm (fat_of hH')
    simpa [hds] using this

theorem sort_said : SortSaid := by
  intro B F v w hl hown hnil
  by_cases h0 : F = []
  · obtain rfl := hnil h0
    subst h0
    have hcon := AnyF.slices_SortFunc_none Tryd.sortF none 0 (.func (.func 25) #[] #[]) w
    change Calls Tryd.prog 24 _ _ _ at hcon
    refine hcon.mono ?_
    rintro e w1 ⟨rfl, rfl⟩
    exact ⟨rfl, [], List.Perm.refl _, fun i j _ h => by simp at h, hown, Below.refl _ _⟩
  · have hp : 0 < F.length := List.length_pos_iff.2 h0
    obtain ⟨g, cap, rfl, hB, hg, hn, hm, hS, hF⟩ := own_shape hown hp
    refine (sort_some B g cap F w hl hB hg hn hm hS hF).mono ?_
    rintro e w1 ⟨rfl, F', h1, h2, h3, h4⟩
    exact ⟨rfl, F', h1, h2, h3, h4⟩
end Go.Proofs.YtmenmlkclggjjaaDoor

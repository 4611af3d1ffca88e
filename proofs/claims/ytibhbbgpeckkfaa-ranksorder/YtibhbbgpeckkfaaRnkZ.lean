import Derived.Test.YtibhbbgpeckkfaaRnkP
import Derived.Shelf.SlSortCmp.WholeK
import Derived.Shelf.SlSortCmp.NoneTotal
/- The library's sort over a row of edges that the caller owns, with the comparison that package ranks hands it. -/
namespace Go.Proofs.Ytibhbbgpeckkfaa
open Go.Shelf Go.RowKit

def sortRen : Go.Shelf.Ren := ⟨fun | 6 => 23 | 15 => 31 | 14 => 30 | 28 => 43 | 29 => 44 | 20 => 35 | 21 => 36 | 22 => 37 | 23 => 38 | 24 => 39 | 25 => 40 | 26 => 41 | 27 => 42 | 46 => 48 | 47 => 49 | 48 => 50 | 49 => 51 | 50 => 52 | 57 => 55 | n => n, fun | 22 => 22 | 24 => 30 | 25 => 54 | 3 => 3 | 39 => 38 | 0 => 0 | 53 => 70 | 55 => 72 | 4 => 4 | 46 => 63 | 45 => 62 | 50 => 67 | 5 => 5 | 9 => 9 | 66 => 76 | 70 => 80 | 76 => 86 | 77 => 87 | n => n, fun | n => n⟩
theorem sortLays : Go.Proofs.SlLaysF0.n6 Try.prog sortRen := {
  mixed := by kernel_rfl
  f6 := ⟨Try.f23.name, by decide, Try.func23.trans (congrArg some (by kernel_rfl))⟩
  f14 := ⟨Try.f30.name, by decide, Try.func30.trans (congrArg some (by kernel_rfl))⟩
  f15 := Try.func31.trans (congrArg some (by kernel_rfl))
  f20 := ⟨Try.f35.name, by decide, Try.func35.trans (congrArg some (by kernel_rfl))⟩
  f21 := ⟨Try.f36.name, by decide, Try.func36.trans (congrArg some (by kernel_rfl))⟩
  f22 := ⟨Try.f37.name, by decide, Try.func37.trans (congrArg some (by kernel_rfl))⟩
  f23 := ⟨Try.f38.name, by decide, Try.func38.trans (congrArg some (by kernel_rfl))⟩
  f24 := ⟨Try.f39.name, by decide, Try.func39.trans (congrArg some (by kernel_rfl))⟩
  f25 := ⟨Try.f40.name, by decide, Try.func40.trans (congrArg some (by kernel_rfl))⟩
  f26 := ⟨Try.f41.name, by decide, Try.func41.trans (congrArg some (by kernel_rfl))⟩
  f27 := ⟨Try.f42.name, by decide, Try.func42.trans (congrArg some (by kernel_rfl))⟩
  f28 := Try.func43.trans (congrArg some (by kernel_rfl))
  f29 := Try.func44.trans (congrArg some (by kernel_rfl))
  f46 := ⟨Try.f48.name, by decide, Try.func48.trans (congrArg some (by kernel_rfl))⟩
  f47 := Try.func49.trans (congrArg some (by kernel_rfl))
  f48 := Try.func50.trans (congrArg some (by kernel_rfl))
  f49 := ⟨Try.f51.name, by decide, Try.func51.trans (congrArg some (by kernel_rfl))⟩
  f50 := ⟨Try.f52.name, by decide, Try.func52.trans (congrArg some (by kernel_rfl))⟩
  f57 := ⟨Try.f55.name, by decide, Try.func55.trans (congrArg some (by kernel_rfl))⟩
  t0 := Try.underlying0
  a0 := Try.isAgg0
  z0 := Try.sizeOf0
  v0 := Try.zeroValue0
  t3 := Try.underlying3
  a3 := Try.isAgg3
  z3 := Try.sizeOf3
  v3 := Try.zeroValue3
  t4 := Try.underlying4
  a4 := Try.isAgg4
  z4 := Try.sizeOf4
  v4 := Try.zeroValue4
  t5 := Try.underlying5
  a5 := Try.isAgg5
  z5 := Try.sizeOf5
  v5 := Try.zeroValue5
  t9 := Try.underlying9
  a9 := Try.isAgg9
  z9 := Try.sizeOf9
  v9 := Try.zeroValue9
  t22 := Try.underlying22
  a22 := Try.isAgg22
  z22 := Try.sizeOf22
  v22 := Try.zeroValue22
  t25 := Try.underlying54
  a25 := Try.isAgg54
  z25 := Try.sizeOf54
  v25 := Try.zeroValue54
  t39 := Try.underlying38
  a39 := Try.isAgg38
  z39 := Try.sizeOf38
  v39 := Try.zeroValue38
  t45 := Try.underlying62
  a45 := Try.isAgg62
  z45 := Try.sizeOf62
  v45 := Try.zeroValue62
  t46 := Try.underlying63
  a46 := Try.isAgg63
  z46 := Try.sizeOf63
  v46 := Try.zeroValue63
  t50 := Try.underlying67
  a50 := Try.isAgg67
  z50 := Try.sizeOf67
  v50 := Try.zeroValue67
  t53 := Try.underlying70
  a53 := Try.isAgg70
  z53 := Try.sizeOf70
  v53 := Try.zeroValue70
  t55 := Try.underlying72
  a55 := Try.isAgg72
  z55 := Try.sizeOf72
  v55 := Try.zeroValue72
  t66 := Try.underlying76
  a66 := Try.isAgg76
  z66 := Try.sizeOf76
  v66 := Try.zeroValue76
  t70 := Try.underlying80
  a70 := Try.isAgg80
  z70 := Try.sizeOf80
  v70 := Try.zeroValue80
  t76 := Try.underlying86
  a76 := Try.isAgg86
  z76 := Try.sizeOf86
  v76 := Try.zeroValue86
  t77 := Try.underlying87
  a77 := Try.isAgg87
  z77 := Try.sizeOf87
  v77 := Try.zeroValue87 }

/-- An edge stands ahead of another. -/
def elb (x y : Int × Int) : Bool := decide (x.1 < y.1) || (decide (x.1 = y.1) && decide (x.2 < y.2))
theorem elb_iff (x y : Int × Int) : elb x y = true ↔ x.1 < y.1 ∨ (x.1 = y.1 ∧ x.2 < y.2) := by simp [elb]
theorem elb_no (x y : Int × Int) : elb x y = false ↔ ¬ (x.1 < y.1 ∨ (x.1 = y.1 ∧ x.2 < y.2)) := by rw [← elb_iff]; simp
theorem elb_eq {x y : Int × Int} (h1 : elb x y = false) (h2 : elb y x = false) : x = y := by
  rw [elb_no] at *
  obtain ⟨a, b⟩ := x
  obtain ⟨c, d⟩ := y
  simp at h1 h2 ⊢
  omega
/-- An edge's two cells. -/
def encF (x : Int × Int) : List Value := [.int .i64 x.1, .int .i64 x.2]
theorem ltOf_cmpE (x y : Int × Int) : ltOf cmpE x y = elb x y := by
  unfold ltOf cmpE cmpI elb
  by_cases h : x.1 = y.1
  · rw [if_pos h]
    by_cases h1 : x.2 < y.2
    · simp [h, h1]
    · by_cases h2 : y.2 < x.2 <;> simp [h, h1, h2]
  · rw [if_neg h]
    by_cases h1 : x.1 < y.1
    · simp [h1]
    · by_cases h2 : y.1 < x.1 <;> simp [h, h1, h2]
theorem cmpLaysE (blk off size : Nat) (w : World) : CmpLays Try.prog 24 #[] encF 2 cmpE blk off size w :=
  fun _ _ _ _ x y => less_any x y _
theorem swoE : Go.Sort.SWO (ltOf cmpE) := {
  irrefl := fun x => by rw [ltOf_cmpE, elb_no]; omega
  trans := fun x y z h1 h2 => by rw [ltOf_cmpE, elb_iff] at *; omega
  ntrans := fun x y z h1 h2 => by
    rw [ltOf_cmpE, elb_no] at *
    omega }
theorem holds_of {w : World} {g cap : Nat} {F : List (Int × Int)} (hS : Shape w g cap) (hn : F.length ≤ cap) (hF : FAt w g 0 F) : Go.Sort.HoldsK encF 2 w g 0 F.toArray := by
  intro j hj
  have hj' : j < F.length * 2 := by simpa using hj
  refine ⟨?_, (hS.cell (0 + j) (by omega)).2⟩
  rw [Go.Sort.get_flatK encF 2 F.toArray j (by simpa using hj'), arr_get F (j / 2) (by omega)]
  obtain ⟨a, b⟩ := hF (j / 2) (by omega)
  rcases Nat.mod_two_eq_zero_or_one j with e | e
  · rw [show 0 + j / 2 * 2 = 0 + j from by omega] at a
    rw [a, e]; rfl
  · rw [show 0 + j / 2 * 2 + 1 = 0 + j from by omega] at b
    rw [b, e]; rfl

theorem fat_of {w : World} {g : Nat} {d : Array (Int × Int)} (h : Go.Sort.HoldsK encF 2 w g 0 d) : FAt w g 0 d.toList := by
  intro i hi
  have hi' : i < d.size := by simpa using hi
  have e : d.toList[i]?.getD (0, 0) = d[i]! := by
    have := arr_get d.toList i hi
    rw [← this]
  rw [e]
  exact ⟨by have := (h.cell hi' (show 0 < 2 by decide)).1; simpa [encF] using this, by have := (h.cell hi' (show 1 < 2 by decide)).1; simpa [encF] using this⟩

theorem heap_sort {w : World} {g : Nat} (n : Nat) (d : Array (Int × Int)) (os : Array Obj) (k : Nat) (hk : k < w.heap.size) :
    (sortWorldK encF 2 w g 0 n d os).heap[k]? = if g = k then (w.heap[k]?).map (Go.Sort.onCells (Go.Sort.putCells id 0 (Go.Sort.flatK encF 2 d))) else w.heap[k]? := by
  show ((w.heap.modify g (Go.Sort.onCells (Go.Sort.putCells id 0 (Go.Sort.flatK encF 2 d)))) ++ os)[k]? = _
  rw [Array.getElem?_append_left (by simpa using hk), Array.getElem?_modify]

theorem shape_sort {w : World} {g cap : Nat} (hS : Shape w g cap) (hg : g < w.heap.size) (n : Nat) (d : Array (Int × Int)) (os : Array Obj) : Shape (sortWorldK encF 2 w g 0 n d os) g cap := by
  obtain ⟨cur, h1, h2⟩ := hS
  refine ⟨Go.Sort.putCells id 0 (Go.Sort.flatK encF 2 d) cur, ?_, by simpa [Go.Sort.putCells] using h2⟩
  rw [heap_sort n d os g hg, if_pos rfl, h1]
  rfl

theorem below_sort {w : World} {B g : Nat} (hB : B ≤ g) (hg : g < w.heap.size) (n : Nat) (d : Array (Int × Int)) (os : Array Obj) : Below B w (sortWorldK encF 2 w g 0 n d os) := by
  refine ⟨rfl, rfl, rfl, ?_, fun k hk => ?_⟩
  · show w.heap.size ≤ ((w.heap.modify g (Go.Sort.onCells (Go.Sort.putCells id 0 (Go.Sort.flatK encF 2 d)))) ++ os).size
    simp
  · rw [heap_sort n d os k (by omega), if_neg (by omega)]

theorem sort_some (B g cap : Nat) (F : List (Int × Int)) (w : World) (hl : F.length ≤ 20000) (hB : B ≤ g) (hg : g < w.heap.size) (hn : F.length ≤ cap) (hm : cap ≤ maxLen) (hS : Shape w g cap) (hF : FAt w g 0 F) :
    Calls Try.prog 23 #[.slice (some ⟨g, 0, none⟩) F.length cap, .func (.func 24) #[] #[]] w fun e w' => e = .returned (.tuple #[]) ∧ ∃ F' : List (Int × Int), F'.Perm F ∧ (∀ i j, i < j → j < F'.length → elb (F'[j]?.getD (0, 0)) (F'[i]?.getD (0, 0)) = false) ∧
      w'.ownsRow B 30 2 (.slice (some ⟨g, 0, none⟩) F.length cap) F'.length (fcells F') ∧ Below B w w' := by
  have eg : ∀ args w, (callFunc 24 args).run Try.prog w = .ok (.enter 24 args) w := enters_of Try.func24 (by kernel_rfl) rfl
  have hH := holds_of hS hn hF
  have hcon := AnyQ.slices_SortFunc sortLays 2 Try.isAgg30 Try.sizeOf30 encF (fun _ => rfl) (fun x v hv => by simp [encF] at hv; rcases hv with rfl | rfl <;> rfl) cmpE swoE 24 #[] g 0 cap F.toArray w eg (cmpLaysE g 0 F.toArray.size w) hH hg (by simp; omega)
  change Calls Try.prog 23 _ _ _ at hcon
  refine hcon.mono ?_
  rintro e w' ⟨rfl, d', n, os, hp, hs, rfl⟩
  obtain ⟨hps, _, hpp⟩ := hp
  have hds : d'.size = F.length := by simpa using hps
  refine ⟨rfl, d'.toList, ?_, ?_, ?_, below_sort hB hg n d' os⟩
  · rw [Array.toList_extract, Array.toList_extract] at hpp
    simpa [hds, List.take_of_length_le] using hpp
  · intro i j hij hj
    have hj' : j < d'.size := by simpa using hj
    have := hs i j (Nat.zero_le _) hij (by simpa [hds] using hj')
    rw [ltOf_cmpE] at this
    rw [← arr_get d'.toList i (by simp; omega), ← arr_get d'.toList j hj]
    exact this
  · have hH' : Go.Sort.HoldsK encF 2 (sortWorldK encF 2 w g 0 n d' os) g 0 d' :=
      Go.Sort.holdsK_grow encF 2 _ os g 0 d' (by show g < (w.heap.modify g (Go.Sort.onCells (Go.Sort.putCells id 0 (Go.Sort.flatK encF 2 d')))).size; simpa using hg) (Go.Sort.holdsK_putRowK encF 2 _ g 0 F.toArray d' (Go.Sort.holdsK_ahead encF 2 w n g 0 F.toArray hH) (by simpa using hds))
    have := own_of_cells (B := B) (shape_sort hS hg n d' os) hB (by simp [hds]; exact hn) hm (fat_of hH')
    simpa [hds] using this

end Go.Proofs.Ytibhbbgpeckkfaa

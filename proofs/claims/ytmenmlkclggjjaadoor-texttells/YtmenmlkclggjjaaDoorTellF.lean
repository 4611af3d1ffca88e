/- Contracts: words of codes, numerals, and what is told of one fault, by both packages. -/
import Derived.Test.YtmenmlkclggjjaaDoorLawPlaces
import Derived.Test.YtmenmlkclggjjaaDoorShelfT
import Derived.Lib.ItoaLen
namespace Go.Proofs.YtmenmlkclggjjaaDoor
open Go.RowKit

/-- The tables that are read: the words, and the powers of ten. -/
structure Tabs (w : World) : Prop where
  words : ∀ (i : Nat) (b : List UInt8), wordTab[i]? = some b → w.cell? ⟨0, i, none⟩ = some (.string ⟨b.toArray⟩)
  pow : Lib.TabIs Tryd.prog w "internal/strconv.uint64pow10" .u64 Lib.pow10Tab
  size : 4 ≤ w.heap.size
theorem gPow : Tryd.prog.globalNamed "internal/strconv.uint64pow10" = some 1 := by kernel_rfl

theorem Tabs.below {w w' : World} (h : Tabs w) (hb : Below w.heap.size w w') : Tabs w' := by
  have hs := h.size
  refine ⟨fun i b hi => (hb.cell (p := ⟨0, i, none⟩) (by show 0 < w.heap.size; omega)).trans (h.words i b hi), ?_, by have := hb.size; omega⟩
  exact var?_below hb gPow (by omega) h.pow

/-- The word of a code. -/
def wordB (c : Int) : ByteArray := if 0 ≤ c ∧ c < 18 then ⟨(wordTab[c.toNat]?.getD []).toArray⟩ else ⟨#[]⟩

set_option maxHeartbeats 400000 in
theorem word_any (c : Int) (w : World) (hT : Tabs w) :
    Calls Tryd.prog 20 #[.int .i64 c] w fun e w' => e = .returned (.string (wordB c)) ∧ w' = w := by
  by_cases h : 0 ≤ c ∧ c < 18
  · obtain ⟨k, rfl⟩ := Int.eq_ofNat_of_zero_le h.1
    have hk : k < 18 := by omega
    have hw : wordTab[k]? = some (wordTab[k]?.getD []) := by
      rw [List.getElem?_eq_getElem (show k < wordTab.length from hk)]; rfl
    have hc := hT.words k _ hw
    have he : wordB (k : Int) = ⟨(wordTab[k]?.getD []).toArray⟩ := by unfold wordB; rw [if_pos h]; rfl
    rw [he]
    generalize (⟨(wordTab[k]?.getD []).toArray⟩ : ByteArray) = B at *
    clear hw he
    go_enter Tryd.func20, Tryd.ntmps20
    go_wp2
    go_ret
    exact ⟨rfl, rfl⟩
  · have he : wordB c = ⟨#[]⟩ := by unfold wordB; rw [if_neg h]
    rw [he]
    by_cases h1 : c < 0
    · go_enter Tryd.func20, Tryd.ntmps20
      go_wp2
      go_ret
      exact ⟨rfl, rfl⟩
    · have h2 : 18 ≤ c := by omega
      go_enter Tryd.func20, Tryd.ntmps20
      go_wp2
      go_ret
      exact ⟨rfl, rfl⟩

set_option maxRecDepth 100000 in
set_option maxHeartbeats 1000000 in
theorem rword_any (c : Int) (w : World) :
    Calls Tryd.prog 21 #[.int .i64 c] w fun e w' => e = .returned (.string (wordB c)) ∧ Below w.heap.size w w' := by
  by_cases h : 0 ≤ c ∧ c < 18
  · have h18 : c = 0 ∨ c = 1 ∨ c = 2 ∨ c = 3 ∨ c = 4 ∨ c = 5 ∨ c = 6 ∨ c = 7 ∨ c = 8 ∨ c = 9 ∨ c = 10 ∨ c = 11 ∨ c = 12 ∨ c = 13 ∨ c = 14 ∨ c = 15 ∨ c = 16 ∨ c = 17 := by omega
    clear h
    rcases h18 with rfl | rfl | rfl | rfl | rfl | rfl | rfl | rfl | rfl | rfl | rfl | rfl | rfl | rfl | rfl | rfl | rfl | rfl
    all_goals
      go_enter Tryd.func21, Tryd.ntmps21
      go_wp2
      go_ret
      exact ⟨rfl, (Below.refl _ _).alloc (Nat.le_refl _) _⟩
  · have he : wordB c = ⟨#[]⟩ := by unfold wordB; rw [if_neg h]
    rw [he]
    by_cases h1 : c < 0
    · go_enter Tryd.func21, Tryd.ntmps21
      go_wp2
      go_ret
      exact ⟨rfl, (Below.refl _ _).alloc (Nat.le_refl _) _⟩
    · have h2 : 18 ≤ c := by omega
      go_enter Tryd.func21, Tryd.ntmps21
      go_wp2
      go_ret
      exact ⟨rfl, (Below.refl _ _).alloc (Nat.le_refl _) _⟩

/-- A numeral. -/
def numB (n : Int) : ByteArray := ⟨(Lib.itoa n).toArray⟩
theorem numB_size (n : Int) (h0 : 0 ≤ n) (h1 : n ≤ 20000) : (numB n).size ≤ 21 := by
  have := Lib.itoa_length_le n (by omega) (by omega)
  simpa [numB, ByteArray.size] using this
theorem wordB_size (c : Int) : (wordB c).size ≤ 6 := by
  unfold wordB
  split
  · rename_i h
    have h18 : c = 0 ∨ c = 1 ∨ c = 2 ∨ c = 3 ∨ c = 4 ∨ c = 5 ∨ c = 6 ∨ c = 7 ∨ c = 8 ∨ c = 9 ∨ c = 10 ∨ c = 11 ∨ c = 12 ∨ c = 13 ∨ c = 14 ∨ c = 15 ∨ c = 16 ∨ c = 17 := by omega
    rcases h18 with rfl | rfl | rfl | rfl | rfl | rfl | rfl | rfl | rfl | rfl | rfl | rfl | rfl | rfl | rfl | rfl | rfl | rfl <;> decide
  · decide

theorem below_grow (w : World) (k : Nat) (os : Array Obj) : Below w.heap.size w (Go.Sort.grow (w.drewN k) os) := by
  refine ⟨rfl, rfl, rfl, ?_, fun j hj => ?_⟩
  · show w.heap.size ≤ (w.heap ++ os).size
    simp
  · show (w.heap ++ os)[j]? = w.heap[j]?
    rw [Array.getElem?_append_left hj]

theorem itoa_any (n : Int) (w : World) (h0 : 0 ≤ n) (h1 : n ≤ 20000) (hT : Tabs w) :
    Calls Tryd.prog 32 #[.int .i64 n] w fun e w' => e = .returned (.string (numB n)) ∧ Below w.heap.size w w' := by
  refine (Tryd.strconv_Itoa n (by omega) (by omega) w hT.pow).mono ?_
  rintro e w1 ⟨rfl, k, os, rfl⟩
  exact ⟨rfl, below_grow w k os⟩
end Go.Proofs.YtmenmlkclggjjaaDoor

/- Contracts: the line and the column of a place by the search; the words of codes; that the package has begun. -/
import Derived.Test.YtmenmlkclggjjaaDoorSame
namespace Go.Proofs.YtmenmlkclggjjaaDoor
open Go.RowKit

set_option maxHeartbeats 400000 in
theorem among_size (a0 : Option Addr) (n cap : Nat) (sz a : Int) (w : World) (hbig : 12000 < sz) :
    Calls Tryd.prog 22 #[.slice a0 n cap, .int .i64 sz, .int .i64 a] w fun e w' => e = .returned (.tuple #[.int .i64 0, .int .i64 0, .agg #[.int .i64 1, .int .i64 (-1)]]) ∧ Below w.heap.size w w' := by
  go_enter Tryd.func22, Tryd.ntmps22
  go_wp2_with fail
  refine (unplaced_any _ _).mono ?_
  rintro e w1 ⟨rfl, hb⟩
  obtain ⟨hc, hf⟩ := bcell hb
  have hz : w.heap.size + 2 < w1.heap.size := by have := hb.size; simp at this; omega
  go_wp2
  exact bodyPost_ret (v := .tuple #[.int .i64 0, .int .i64 0, .agg #[.int .i64 1, .int .i64 (-1)]]) (by simp [results, Tryd.results22, go_sem, hc]) rfl ⟨rfl, (((((Below.refl _ _).alloc (Nat.le_refl _) _).alloc (by simp) _).alloc (by simp; omega) _).trans (hb.mono (by simp; omega))).setCell (by simp; omega) _ |>.setCell (by simp; omega) _⟩

set_option maxHeartbeats 400000 in
theorem among_range (a0 : Option Addr) (n cap : Nat) (sz : Nat) (a : Int) (w : World) (hs : sz ≤ 12000) (hbad : a < 0 ∨ (sz : Int) < a) :
    Calls Tryd.prog 22 #[.slice a0 n cap, .int .i64 sz, .int .i64 a] w fun e w' => e = .returned (.tuple #[.int .i64 0, .int .i64 0, .agg #[.int .i64 14, .int .i64 (-1)]]) ∧ Below w.heap.size w w' := by
  by_cases hneg : a < 0
  all_goals
    go_enter Tryd.func22, Tryd.ntmps22
    go_wp2_with fail
    refine (unplaced_any _ _).mono ?_
    rintro e w1 ⟨rfl, hb⟩
    obtain ⟨hc, hf⟩ := bcell hb
    have hz : w.heap.size + 2 < w1.heap.size := by have := hb.size; simp at this; omega
    go_wp2
    exact bodyPost_ret (v := .tuple #[.int .i64 0, .int .i64 0, .agg #[.int .i64 14, .int .i64 (-1)]]) (by simp [results, Tryd.results22, go_sem, hc]) rfl ⟨rfl, (((((Below.refl _ _).alloc (Nat.le_refl _) _).alloc (by simp) _).alloc (by simp; omega) _).trans (hb.mono (by simp; omega))).setCell (by simp; omega) _ |>.setCell (by simp; omega) _⟩

set_option maxHeartbeats 400000 in
theorem among_in (l : List Nat) (g cap sz a : Nat) (w : World) (hs : sz ≤ 12000) (ha : a ≤ sz) (hn : l.length ≤ 12001) (hg : g < w.heap.size)
    (hc : ∀ k, k < l.length → w.cell? ⟨g, k, none⟩ = some (.int .i64 ((l[k]?.getD 0 : Nat) : Int)))
    (hup : ∀ i j, i ≤ j → j < l.length → l[i]?.getD 0 ≤ l[j]?.getD 0) (h0 : 0 < l.length) (h00 : l[0]?.getD 0 = 0) :
    Calls Tryd.prog 22 #[.slice (some ⟨g, 0, none⟩) l.length cap, .int .i64 sz, .int .i64 a] w fun e w' => ∃ r : Nat, r ≤ l.length ∧ 0 < r ∧ (∀ k, k < r → l[k]?.getD 0 ≤ a) ∧ (r < l.length → a < l[r]?.getD 0) ∧
      e = .returned (.tuple #[.int .i64 r, .int .i64 ((a : Int) - ((l[r - 1]?.getD 0 : Nat) : Int) + 1), .agg #[.int .i64 0, .int .i64 0]]) ∧ Below w.heap.size w w' := by
  go_enter Tryd.func22, Tryd.ntmps22
  go_wp2_with fail
  refine (search_any l g w.heap.size (w.heap.size + 1) cap a _ hn ?_ ?_ ?_ hup).mono ?_
  · simp [go_sem]
  · simp [go_sem]
  · intro k hk
    rw [← hc k hk]
    exact ((((Below.refl w.heap.size w).alloc (Nat.le_refl _) _).alloc (by simp) _).alloc (by simp; omega) _).cell (p := ⟨g, k, none⟩) hg
  rintro e w1 ⟨r, rfl, hr, hlo, hhi, hb⟩
  have hr0 : 0 < r := by
    rcases Nat.eq_zero_or_pos r with h | h
    · subst h
      have := hhi h0
      omega
    · exact h
  have hb1 : l[r - 1]?.getD 0 ≤ a := hlo _ (by omega)
  obtain ⟨hc1, hf1⟩ := bcell hb
  have hz : w.heap.size + 2 < w1.heap.size := by have := hb.size; simp at this; omega
  have hcr := (hb.cell (p := ⟨g, r - 1, none⟩) (by simp; omega)).trans (((((Below.refl w.heap.size w).alloc (Nat.le_refl _) _).alloc (by simp) _).alloc (by simp; omega) _).cell (p := ⟨g, r - 1, none⟩) hg |>.trans (hc (r - 1) (by omega)))
  go_wp2
  go_region
  have hB : Below w.heap.size w w1 := ((((Below.refl w.heap.size w).alloc (Nat.le_refl _) _).alloc (by simp) _).alloc (by simp; omega) _).trans (hb.mono (by simp; omega))
  all_goals (try go_wp2)
  all_goals refine bodyPost_ret (v := .tuple #[.int .i64 r, .int .i64 ((a : Int) - ((l[r - 1]?.getD 0 : Nat) : Int) + 1), .agg #[.int .i64 0, .int .i64 0]]) (by simp [results, Tryd.results22, go_sem, hc1]) rfl ⟨r, hr, hr0, hlo, hhi, rfl, ?_⟩
  exact ((hB.setCell (by simp; omega) _).setCell (by simp; omega) _).drew

theorem begs_up (l : List UInt8) (n : Nat) : ∀ i j, i ≤ j → j < (Pl.begs l n).length → (Pl.begs l n)[i]?.getD 0 ≤ (Pl.begs l n)[j]?.getD 0 := by
  induction n with
  | zero =>
    intro i j hij hj
    simp [Pl.begs] at hj
    subst hj
    obtain rfl : i = 0 := by omega
    exact Nat.le_refl _
  | succ n ih =>
    intro i j hij hj
    by_cases h : l[n]?.getD 0 = 10
    · rw [Pl.begs_hit l n h] at hj ⊢
      by_cases hc : j < (Pl.begs l n).length
      · rw [List.getElem?_append_left hc, List.getElem?_append_left (by omega)]
        exact ih i j hij hc
      · have hjl : j = (Pl.begs l n).length := by simp at hj; omega
        by_cases hi : i < (Pl.begs l n).length
        · rw [List.getElem?_append_left hi, List.getElem?_append_right (by omega), hjl, List.getElem?_eq_getElem hi]
          have := Pl.begs_le l n _ (List.getElem_mem hi)
          simp
          omega
        · obtain rfl : i = j := by omega
          exact Nat.le_refl _
    · rw [Pl.begs_miss l n h] at hj ⊢
      exact ih i j hij hj

theorem begs_zero (l : List UInt8) (n : Nat) : (Pl.begs l n)[0]?.getD 0 = 0 := by
  have := Pl.begs_low l 0 n (Nat.zero_le _) 0 (by simp [Pl.begs])
  omega

theorem begs_all (l : List UInt8) (n : Nat) (k : Nat) (hk : k < (Pl.begs l n).length) : (Pl.begs l n)[k]?.getD 0 ≤ n := by
  rw [List.getElem?_eq_getElem hk]
  exact Pl.begs_le l n _ (List.getElem_mem hk)

set_option maxHeartbeats 400000 in
theorem place_size (s : ByteArray) (a : Int) (w : World) (hs : s.size ≤ maxLen) (hbig : 12000 < s.size) :
    Calls Tryd.prog 8 #[.string s, .int .i64 a] w fun e w' => e = .returned (.tuple #[.int .i64 0, .int .i64 0, .agg #[.int .i64 1, .int .i64 (-1)]]) ∧ Below w.heap.size w w' := by
  go_enter Tryd.func8, Tryd.ntmps8
  go_wp2_with fail
  refine (lines_no s _ hs hbig).mono ?_
  rintro e w1 ⟨rfl, rfl⟩
  unfold maxLen at hs
  go_wp2_with fail
  refine (among_size _ _ _ _ _ _ (by omega)).mono ?_
  rintro e w2 ⟨rfl, hb⟩
  obtain ⟨hc, hf⟩ := bcell hb
  have hz : w.heap.size < w2.heap.size := by have := hb.size; simp at this; omega
  go_wp2
  exact bodyPost_ret (v := .tuple #[.int .i64 0, .int .i64 0, .agg #[.int .i64 1, .int .i64 (-1)]]) (by simp [results, Tryd.results8, go_sem, hc]) rfl ⟨rfl, (((Below.refl _ _).alloc (Nat.le_refl _) _).trans (hb.mono (by simp))).setCell (by simp) _ |>.setCell (by simp) _⟩

set_option maxHeartbeats 400000 in
theorem place_range (s : ByteArray) (a : Int) (w : World) (hs : s.size ≤ 12000) (hbad : a < 0 ∨ (s.size : Int) < a) :
    Calls Tryd.prog 8 #[.string s, .int .i64 a] w fun e w' => e = .returned (.tuple #[.int .i64 0, .int .i64 0, .agg #[.int .i64 14, .int .i64 (-1)]]) ∧ Below w.heap.size w w' := by
  go_enter Tryd.func8, Tryd.ntmps8
  go_wp2_with fail
  refine (lines_yes s _ hs).mono ?_
  rintro e w1 ⟨v, rfl, hown, hb1⟩
  obtain ⟨g, cap, rfl, _, _, _, _, _⟩ := own_cells hown (Pl.begs_pos _ _)
  obtain ⟨hc1, hf1⟩ := bcell hb1
  have hz1 : w.heap.size < w1.heap.size := by have := hb1.size; simp at this; omega
  go_wp2_with fail
  refine (among_range _ _ _ _ _ _ hs hbad).mono ?_
  rintro e w2 ⟨rfl, hb⟩
  obtain ⟨hc, hf⟩ := bcell hb
  have hz : w.heap.size < w2.heap.size := by have := hb.size; omega
  go_wp2
  exact bodyPost_ret (v := .tuple #[.int .i64 0, .int .i64 0, .agg #[.int .i64 14, .int .i64 (-1)]]) (by simp [results, Tryd.results8, go_sem, hc, hc1, hz1]) rfl ⟨rfl, ((((Below.refl _ _).alloc (Nat.le_refl _) _).trans (hb1.mono (by simp))).trans (hb.mono (by omega))).setCell (by simp) _ |>.setCell (by simp) _⟩

set_option maxHeartbeats 400000 in
theorem place_in (s : ByteArray) (k : Nat) (w : World) (hs : s.size ≤ 12000) (hk : k ≤ s.size) :
    Calls Tryd.prog 8 #[.string s, .int .i64 k] w fun e w' => e = .returned (.tuple #[.int .i64 (Pl.begs s.data.toList k).length, .int .i64 (((k - Pl.last s.data.toList k : Nat) : Int) + 1), .agg #[.int .i64 0, .int .i64 0]]) ∧ Below w.heap.size w w' := by
  have hlen := Pl.begs_len s.data.toList s.size
  go_enter Tryd.func8, Tryd.ntmps8
  go_wp2_with fail
  refine (lines_yes s _ hs).mono ?_
  rintro e w1 ⟨v, rfl, hown, hb1⟩
  obtain ⟨g, cap, rfl, _, hg, _, _, hcell⟩ := own_cells hown (Pl.begs_pos _ _)
  obtain ⟨hc1, hf1⟩ := bcell hb1
  have hz1 : w.heap.size < w1.heap.size := by have := hb1.size; simp at this; omega
  have HC := hide hcell
  clear hcell hown
  go_wp2_with fail
  refine (among_in (Pl.begs s.data.toList s.size) g cap s.size k _ hs hk (by omega) hg HC.out (begs_up _ _) (Pl.begs_pos _ _) (begs_zero _ _)).mono ?_
  rintro e w2 ⟨r, hr, hr0, hlo, hhi, rfl, hb⟩
  have hrr := Pl.found s.data.toList k s.size r hk hr hlo hhi
  subst hrr
  have hcol : ((k : Int) - (((Pl.begs s.data.toList s.size)[(Pl.begs s.data.toList k).length - 1]?.getD 0 : Nat) : Int) + 1) = (((k - Pl.last s.data.toList k : Nat) : Int) + 1) := by
    have h1 := Pl.begs_at_last s.data.toList k s.size hk
    have h2 := Pl.last_le s.data.toList k
    rw [h1]
    omega
  rw [hcol]
  clear hlo hhi hcol
  obtain ⟨hc, hf⟩ := bcell hb
  have hz : w.heap.size < w2.heap.size := by have := hb.size; omega
  go_wp2
  exact bodyPost_ret (v := .tuple #[.int .i64 (Pl.begs s.data.toList k).length, .int .i64 (((k - Pl.last s.data.toList k : Nat) : Int) + 1), .agg #[.int .i64 0, .int .i64 0]]) (by simp [results, Tryd.results8, go_sem, hc, hc1, hz1]) rfl ⟨rfl, ((((Below.refl _ _).alloc (Nat.le_refl _) _).trans (hb1.mono (by simp))).trans (hb.mono (by omega))).setCell (by simp) _ |>.setCell (by simp) _⟩

/-- The words of the codes, as the program's table lays them. -/
def wordTab : List (List UInt8) := [[], [115, 105, 122, 101], [116, 101, 120, 116], [110, 117, 109, 98, 101, 114], [110, 97, 109, 101], [102, 111, 114, 109], [115, 104, 111, 114, 116], [100, 101, 101, 112], [109, 97, 110, 121], [116, 119, 105, 99, 101], [110, 111, 110, 101], [116, 121, 112, 101], [115, 116, 97, 103, 101], [109, 97, 105, 110], [114, 97, 110, 103, 101], [99, 111, 117, 110, 116], [99, 111, 100, 101], [114, 111, 117, 110, 100]]

set_option maxHeartbeats 400000 in
theorem word_five (w : World) (h : w.cell? ⟨0, 5, none⟩ = some (.string ⟨#[102, 111, 114, 109]⟩)) :
    Calls Tryd.prog 20 #[.int .i64 5] w fun e w' => e = .returned (.string ⟨#[102, 111, 114, 109]⟩) ∧ w' = w := by
  go_enter Tryd.func20, Tryd.ntmps20
  go_wp2
  go_ret
  exact ⟨rfl, rfl⟩

set_option maxHeartbeats 400000 in
theorem begun_any (w : World) (h0 : 0 < w.heap.size) (h : w.cell? ⟨0, 5, none⟩ = some (.string ⟨#[102, 111, 114, 109]⟩)) :
    Calls Tryd.prog 7 #[] w fun e w' => e = .returned (.bool true) ∧ Below w.heap.size w w' := by
  go_enter Tryd.func7, Tryd.ntmps7
  go_wp2_with fail
  refine (place_in ⟨#[97, 98, 10, 99, 100]⟩ 4 _ (by decide) (by decide)).mono ?_
  rintro e w1 ⟨rfl, hb⟩
  rw [show (Pl.begs (ByteArray.mk #[97, 98, 10, 99, 100]).data.toList 4).length = 2 from by decide, show 4 - Pl.last (ByteArray.mk #[97, 98, 10, 99, 100]).data.toList 4 = 1 from by decide]
  have h1 : w1.cell? ⟨0, 5, none⟩ = some (.string ⟨#[102, 111, 114, 109]⟩) := (hb.cell (p := ⟨0, 5, none⟩) h0).trans h
  have hz := hb.size
  go_wp2_with fail
  refine (word_five _ ?_).mono ?_
  · exact (World.cell?_alloc_past _ _ _ (by omega)).trans h1
  rintro e w2 ⟨rfl, rfl⟩
  go_wp2
  go_ret
  exact ⟨rfl, hb.alloc hz _⟩
end Go.Proofs.YtmenmlkclggjjaaDoor

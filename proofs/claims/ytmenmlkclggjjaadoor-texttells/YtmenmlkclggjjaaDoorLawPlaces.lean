/- The law TextPlaces, walked: at every text and every place it answers true and writes nothing that was there. -/
import Derived.Test.YtmenmlkclggjjaaDoorPlace
namespace Go.Proofs.YtmenmlkclggjjaaDoor
open Go.RowKit

theorem below_grown {w w' : World} (h : Below w.heap.size w w') : w.grownBy w' none := ⟨h.os, h.tape, h.output, h.size, fun k hk _ => h.block k hk⟩

/-- What Lines hands back of a text: its row of beginnings, or nil. -/
def RowOf (s : ByteArray) (B : Nat) (w : World) (v : Value) : Prop :=
  (s.size ≤ 12000 ∧ w.ownsRow B 3 1 v (Pl.begs s.data.toList s.size).length (nums (Pl.begs s.data.toList s.size))) ∨ (12000 < s.size ∧ v = .slice none 0 0)

theorem RowOf.below {s : ByteArray} {B : Nat} {w w' : World} {v : Value} (h : RowOf s B w v) (hb : Below w.heap.size w w') : RowOf s B w' v := by
  rcases h with ⟨h1, h2⟩ | h
  · exact .inl ⟨h1, h2.kept (below_grown hb) (by cases hv : v.ownBlock <;> simp)⟩
  · exact .inr h

theorem lines_any (s : ByteArray) (w : World) (hs : s.size ≤ maxLen) :
    Calls Tryd.prog 11 #[.string s] w fun e w' => ∃ v, e = .returned v ∧ RowOf s w.heap.size w' v ∧ Below w.heap.size w w' := by
  by_cases h : s.size ≤ 12000
  · refine (lines_yes s w h).mono ?_
    rintro e w1 ⟨v, rfl, hown, hb⟩
    exact ⟨v, rfl, .inl ⟨h, hown⟩, hb⟩
  · refine (lines_no s w hs (by omega)).mono ?_
    rintro e w1 ⟨rfl, rfl⟩
    exact ⟨_, rfl, .inr ⟨by omega, rfl⟩, Below.refl _ _⟩

theorem rlines_any (s : ByteArray) (w : World) (hs : s.size ≤ maxLen) :
    Calls Tryd.prog 12 #[.string s] w fun e w' => ∃ v, e = .returned v ∧ RowOf s w.heap.size w' v ∧ Below w.heap.size w w' := by
  by_cases h : s.size ≤ 12000
  · refine (rlines_yes s w h).mono ?_
    rintro e w1 ⟨v, rfl, hown, hb⟩
    exact ⟨v, rfl, .inl ⟨h, hown⟩, hb⟩
  · refine (rlines_no s w hs (by omega)).mono ?_
    rintro e w1 ⟨rfl, rfl⟩
    exact ⟨_, rfl, .inr ⟨by omega, rfl⟩, Below.refl _ _⟩

theorem same_row (s : ByteArray) (B1 B2 : Nat) (v1 v2 : Value) (w : World) (h1 : RowOf s B1 w v1) (h2 : RowOf s B2 w v2) :
    Calls Tryd.prog 10 #[v1, v2] w fun e w' => e = .returned (.bool true) ∧ Below w.heap.size w w' := by
  rcases h1 with ⟨ha, h1⟩ | ⟨ha, rfl⟩
  · rcases h2 with ⟨_, h2⟩ | ⟨hb, _⟩
    · have := Pl.begs_len s.data.toList s.size
      exact same_any _ B1 B2 v1 v2 w (by omega) (Pl.begs_pos _ _) h1 h2
    · omega
  · rcases h2 with ⟨hb, _⟩ | ⟨_, rfl⟩
    · omega
    · refine (same_zero none none 0 0 w).mono ?_
      rintro e w1 ⟨rfl, rfl⟩
      exact ⟨rfl, Below.refl _ _⟩

set_option maxHeartbeats 400000 in
theorem places_huge (s : ByteArray) (a : Int) (w : World) (h0 : 0 < w.heap.size) (h : w.cell? ⟨0, 5, none⟩ = some (.string ⟨#[102, 111, 114, 109]⟩)) (hs : s.size ≤ maxLen) (hbig : 20000 < s.size) :
    Calls Tryd.prog 3 #[.string s, .int .i64 a] w fun e w' => e = .returned (.bool true) ∧ Below w.heap.size w w' := by
  unfold maxLen at hs
  go_enter Tryd.func3, Tryd.ntmps3
  go_wp2_with fail
  refine (begun_any _ h0 h).mono ?_
  rintro e w1 ⟨rfl, hb⟩
  go_wp2
  go_ret
  exact ⟨rfl, hb⟩

/-- What both of the two functions that tell a place hand back. -/
def Tells (f : Nat) (s : ByteArray) (a ln cl c d : Int) : Prop :=
  ∀ w, Calls Tryd.prog f #[.string s, .int .i64 a] w fun e w' => e = .returned (.tuple #[.int .i64 ln, .int .i64 cl, .agg #[.int .i64 c, .int .i64 d]]) ∧ Below w.heap.size w w'

set_option maxHeartbeats 400000 in
theorem places_core (s : ByteArray) (a ln cl c d : Int) (w : World) (h0 : 0 < w.heap.size) (h : w.cell? ⟨0, 5, none⟩ = some (.string ⟨#[102, 111, 114, 109]⟩)) (hs : s.size ≤ 20000)
    (hP : Tells 8 s a ln cl c d) (hR : Tells 9 s a ln cl c d) :
    Calls Tryd.prog 3 #[.string s, .int .i64 a] w fun e w' => e = .returned (.bool true) ∧ Below w.heap.size w w' := by
  go_enter Tryd.func3, Tryd.ntmps3
  go_wp2_with fail
  refine (begun_any _ h0 h).mono ?_
  rintro e w1 ⟨rfl, hb1⟩
  go_wp2_with fail
  refine (hP _).mono ?_
  rintro e w2 ⟨rfl, hb2⟩
  go_wp2_with fail
  refine (hR _).mono ?_
  rintro e w3 ⟨rfl, hb3⟩
  obtain ⟨hc3, hf3⟩ := bcell hb3
  have hz3 : w2.heap.size < w3.heap.size := by have := hb3.size; simp at this; omega
  go_wp2_with fail
  refine (lines_any s _ (by unfold maxLen; omega)).mono ?_
  rintro e w4 ⟨v1, rfl, hr1, hb4⟩
  go_wp2_with fail
  refine (rlines_any s _ (by unfold maxLen; omega)).mono ?_
  rintro e w5 ⟨v2, rfl, hr2, hb5⟩
  go_wp2_with fail
  refine (same_row s _ _ v1 v2 _ (hr1.below hb5) hr2).mono ?_
  rintro e w6 ⟨rfl, hb6⟩
  go_wp2
  go_ret
  refine ⟨rfl, ?_⟩
  have z1 := hb1.size
  have z2 := hb2.size
  have z4 := hb4.size
  simp at z4
  have z5 := hb5.size
  exact ((((((hb1.trans (hb2.mono z1)).alloc (by omega) _).trans (hb3.mono (by simp; omega))).alloc (by omega) _).trans (hb4.mono (by simp; omega))).trans (hb5.mono (by omega))).trans (hb6.mono (by omega))

theorem places_any (s : ByteArray) (a : Int) (w : World) (h0 : 0 < w.heap.size) (h : w.cell? ⟨0, 5, none⟩ = some (.string ⟨#[102, 111, 114, 109]⟩)) (hs : s.size ≤ maxLen) :
    Calls Tryd.prog 3 #[.string s, .int .i64 a] w fun e w' => e = .returned (.bool true) ∧ Below w.heap.size w w' := by
  by_cases hbig : 20000 < s.size
  · exact places_huge s a w h0 h hs hbig
  by_cases hb2 : 12000 < s.size
  · exact places_core s a 0 0 1 (-1) w h0 h (by omega) (fun w => place_size s a w hs hb2) (fun w => rplace_size s a w hs hb2)
  by_cases hb3 : a < 0 ∨ (s.size : Int) < a
  · exact places_core s a 0 0 14 (-1) w h0 h (by omega) (fun w => place_range s a w (by omega) hb3) (fun w => rplace_range s a w (by omega) hb3)
  obtain ⟨k, rfl⟩ := Int.eq_ofNat_of_zero_le (show 0 ≤ a by omega)
  exact places_core s k _ _ 0 0 w h0 h (by omega) (fun w => place_in s k w (by omega) (by omega)) (fun w => rplace_in s k w (by omega) (by omega))
end Go.Proofs.YtmenmlkclggjjaaDoor

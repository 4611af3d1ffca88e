/- Contracts of the small functions: a fault that is built; the line and the column by the document's own count. -/
import Derived.Test.YtmenmlkclggjjaaDoorProg
import Derived.Test.YtmenmlkclggjjaaDoorPlain
import Derived.WalkKit
import Derived.WalkSpells
import Derived.WalkLawsBesides
namespace Go.Proofs.YtmenmlkclggjjaaDoor
open Go.RowKit

theorem hide {p : Prop} (h : p) : Hid p := h

set_option maxHeartbeats 400000 in
theorem F_any (c a : Int) (w : World) :
    Calls Tryd.prog 23 #[.int .i64 c, .int .i64 a] w fun e w' => e = .returned (.agg #[.int .i64 c, .int .i64 a]) ∧ Below w.heap.size w w' := by
  go_enter Tryd.func23, Tryd.ntmps23
  go_wp2
  exact bodyPost_ret (v := .agg #[.int .i64 c, .int .i64 a]) (by simp [results, Tryd.results23, go_sem]) rfl ⟨rfl, (Below.refl _ _).alloc (Nat.le_refl _) _⟩

set_option maxHeartbeats 400000 in
theorem unplaced_any (c : Int) (w : World) :
    Calls Tryd.prog 33 #[.int .i64 c] w fun e w' => e = .returned (.agg #[.int .i64 c, .int .i64 (-1)]) ∧ Below w.heap.size w w' := by
  go_enter Tryd.func33, Tryd.ntmps33
  go_wp2
  exact bodyPost_ret (v := .agg #[.int .i64 c, .int .i64 (-1)]) (by simp [results, Tryd.results33, go_sem]) rfl ⟨rfl, (Below.refl _ _).alloc (Nat.le_refl _) _⟩

theorem bcell {W w1 : World} (hb : Below W.heap.size W w1) : (∀ b o, b < W.heap.size → w1.cell? ⟨b, o, none⟩ = W.cell? ⟨b, o, none⟩) ∧ (∀ b o, b < W.heap.size → w1.frozen? ⟨b, o, none⟩ = W.frozen? ⟨b, o, none⟩) :=
  ⟨fun b o h => hb.cell (p := ⟨b, o, none⟩) h, fun b o h => hb.frozen (p := ⟨b, o, none⟩) h⟩

set_option maxHeartbeats 400000 in
theorem rplace_size (s : ByteArray) (at' : Int) (w : World) (hs : s.size ≤ maxLen) (hbig : 12000 < s.size) :
    Calls Tryd.prog 9 #[.string s, .int .i64 at'] w fun e w' => e = .returned (.tuple #[.int .i64 0, .int .i64 0, .agg #[.int .i64 1, .int .i64 (-1)]]) ∧ Below w.heap.size w w' := by
  unfold maxLen at hs
  go_enter Tryd.func9, Tryd.ntmps9
  go_wp2_with (go_at_call 23; refine (F_any _ _ _).mono ?_; rintro e w1 ⟨rfl, hb⟩; obtain ⟨hc, hf⟩ := bcell hb; have hz : w.heap.size < w1.heap.size := (by have := hb.size; simp at this; omega))
  exact bodyPost_ret (v := .tuple #[.int .i64 0, .int .i64 0, .agg #[.int .i64 1, .int .i64 (-1)]]) (by simp [results, Tryd.results9, go_sem, hc]) rfl ⟨rfl, (((Below.refl _ _).alloc (Nat.le_refl _) _).trans (hb.mono (by simp))).setCell (by simp) _ |>.setCell (by simp) _⟩

set_option maxHeartbeats 400000 in
theorem rplace_range (s : ByteArray) (at' : Int) (w : World) (hs : s.size ≤ 12000) (hbad : at' < 0 ∨ (s.size : Int) < at') :
    Calls Tryd.prog 9 #[.string s, .int .i64 at'] w fun e w' => e = .returned (.tuple #[.int .i64 0, .int .i64 0, .agg #[.int .i64 14, .int .i64 (-1)]]) ∧ Below w.heap.size w w' := by
  by_cases hneg : at' < 0
  all_goals
    go_enter Tryd.func9, Tryd.ntmps9
    go_wp2_with (go_at_call 23; refine (F_any _ _ _).mono ?_; rintro e w1 ⟨rfl, hb⟩; obtain ⟨hc, hf⟩ := bcell hb; have hz : w.heap.size < w1.heap.size := (by have := hb.size; simp at this; omega))
    exact bodyPost_ret (v := .tuple #[.int .i64 0, .int .i64 0, .agg #[.int .i64 14, .int .i64 (-1)]]) (by simp [results, Tryd.results9, go_sem, hc]) rfl ⟨rfl, (((Below.refl _ _).alloc (Nat.le_refl _) _).trans (hb.mono (by simp))).setCell (by simp) _ |>.setCell (by simp) _⟩

theorem byte_yes (s : ByteArray) (k : Nat) (h : k < s.size) (ht : (↑s[k].toNat == (10 : Int)) = true) : s.data.toList[k]?.getD 0 = 10 := by
  rw [Pl.byte_at s k h]
  have h1 : (s[k].toNat : Int) = 10 := by simpa using ht
  have h2 : s[k].toNat = 10 := by omega
  exact UInt8.toNat_inj.1 h2
theorem byte_no (s : ByteArray) (k : Nat) (h : k < s.size) (ht : (↑s[k].toNat == (10 : Int)) = false) : ¬ s.data.toList[k]?.getD 0 = 10 := by
  rw [Pl.byte_at s k h]
  intro e
  rw [e] at ht
  simp at ht

set_option maxHeartbeats 400000 in
theorem rplace_in (s : ByteArray) (k : Nat) (w : World) (hs : s.size ≤ 12000) (hk : k ≤ s.size) :
    Calls Tryd.prog 9 #[.string s, .int .i64 k] w fun e w' => e = .returned (.tuple #[.int .i64 (Pl.begs s.data.toList k).length, .int .i64 (((k - Pl.last s.data.toList k : Nat) : Int) + 1), .agg #[.int .i64 0, .int .i64 0]]) ∧ Below w.heap.size w w' := by
  have d1 : decide ((12000 : Int) < (s.size : Int)) = false := by simp; omega
  have d2 : decide ((k : Int) < 0) = false := by simp
  have d3 : decide (s.size < k) = false := by simp; omega
  go_enter Tryd.func9, Tryd.ntmps9
  go_wp2
  go_loop [7, 8, 9] (fun ln cl i => ∃ j : Nat, j ≤ k ∧ i = .int .i64 j ∧ ln = .int .i64 (Pl.begs s.data.toList j).length ∧ cl = .int .i64 (((j - Pl.last s.data.toList j : Nat) : Int) + 1)) (fun _ _ i => k - (intOf i).toNat)
  case atStart => exact ⟨0, Nat.zero_le _, rfl, rfl, rfl⟩
  case round =>
    obtain ⟨j, hj, rfl, rfl, rfl⟩ := hrel
    have h1 := Pl.begs_len s.data.toList j
    have h2 := Pl.last_le s.data.toList j
    by_cases hlt : j < k
    · go_wp2
      · have ht : (↑s[j].toNat == (10 : Int)) = true := by assumption
        have hx := byte_yes s j (by omega) ht
        have e1 := Pl.begs_hit s.data.toList j hx
        have e2 := Pl.last_hit s.data.toList j hx
        have f1 : Value.int .i64 (((Pl.begs s.data.toList j).length : Int) + 1) = .int .i64 ((Pl.begs s.data.toList (j + 1)).length : Int) := by rw [e1]; simp
        have f2 : Value.int .i64 1 = .int .i64 (((j + 1 - Pl.last s.data.toList (j + 1) : Nat) : Int) + 1) := by rw [e2]; simp
        go_round
        case rel => exact ⟨j + 1, by omega, by go_num, f1, f2⟩
        case measure => simp [intOf]; omega
      · have ht : (↑s[j].toNat == (10 : Int)) = false := by assumption
        have hx := byte_no s j (by omega) ht
        have e1 := Pl.begs_miss s.data.toList j hx
        have e2 := Pl.last_miss s.data.toList j hx
        have f1 : Value.int .i64 ((Pl.begs s.data.toList j).length : Int) = .int .i64 ((Pl.begs s.data.toList (j + 1)).length : Int) := by rw [e1]
        have f2 : Value.int .i64 (((j - Pl.last s.data.toList j : Nat) : Int) + 1 + 1) = .int .i64 (((j + 1 - Pl.last s.data.toList (j + 1) : Nat) : Int) + 1) := by rw [e2]; go_num
        go_round
        case rel => exact ⟨j + 1, by omega, by go_num, f1, f2⟩
        case measure => simp [intOf]; omega
    · obtain rfl : j = k := by omega
      go_wp2
      exact bodyPost_ret (v := .tuple #[.int .i64 (Pl.begs s.data.toList j).length, .int .i64 (((j - Pl.last s.data.toList j : Nat) : Int) + 1), .agg #[.int .i64 0, .int .i64 0]]) (by simp [results, Tryd.results9, go_sem]) rfl ⟨rfl, ((Below.refl _ _).alloc (Nat.le_refl _) _)⟩
end Go.Proofs.YtmenmlkclggjjaaDoor

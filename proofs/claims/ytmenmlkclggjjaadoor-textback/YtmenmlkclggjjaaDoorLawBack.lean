/- The law TextBack, walked: at every two texts and every place it answers true and writes nothing that was there. -/
import Derived.Test.YtmenmlkclggjjaaDoorLawPlaces
import Derived.Test.YtmenmlkclggjjaaDoorPlainBack
namespace Go.Proofs.YtmenmlkclggjjaaDoor
open Go.RowKit

set_option maxRecDepth 100000 in
set_option maxHeartbeats 400000 in
theorem back_huge (s t : ByteArray) (a : Int) (w : World) (h0 : 0 < w.heap.size) (h : w.cell? ⟨0, 5, none⟩ = some (.string ⟨#[102, 111, 114, 109]⟩)) (hs : s.size ≤ maxLen) (ht : t.size ≤ maxLen) (hbig : 6000 < s.size ∨ 5000 < t.size) :
    Calls Tryd.prog 5 #[.string s, .string t, .int .i64 a] w fun e w' => e = .returned (.bool true) ∧ Below w.heap.size w w' := by
  unfold maxLen at hs ht
  by_cases h1 : 6000 < s.size
  all_goals
    go_enter Tryd.func5, Tryd.ntmps5
    go_wp2_with fail
    refine (begun_any _ h0 h).mono ?_
    rintro e w1 ⟨rfl, hb⟩
    go_wp2
    go_ret
    exact ⟨rfl, hb⟩

set_option maxRecDepth 100000 in
set_option maxHeartbeats 400000 in
theorem back_range (s t : ByteArray) (a : Int) (w : World) (h0 : 0 < w.heap.size) (h : w.cell? ⟨0, 5, none⟩ = some (.string ⟨#[102, 111, 114, 109]⟩)) (hs : s.size ≤ 6000) (ht : t.size ≤ 5000) (hbad : a < 0 ∨ (s.size : Int) < a) :
    Calls Tryd.prog 5 #[.string s, .string t, .int .i64 a] w fun e w' => e = .returned (.bool true) ∧ Below w.heap.size w w' := by
  by_cases h1 : a < 0
  all_goals
    go_enter Tryd.func5, Tryd.ntmps5
    go_wp2_with fail
    refine (begun_any _ h0 h).mono ?_
    rintro e w1 ⟨rfl, hb1⟩
    go_wp2_with fail
    refine (lines_any s _ (by unfold maxLen; omega)).mono ?_
    rintro e w2 ⟨v, rfl, hr, hb2⟩
    clear hr
    go_wp2_with fail
    refine (place_range s a _ (by omega) hbad).mono ?_
    rintro e w3 ⟨rfl, hb3⟩
    have z1 := hb1.size
    have z2 := hb2.size
    have z3 := hb3.size
    go_wp2
    go_ret
    exact ⟨rfl, ((hb1.trans (hb2.mono (by omega))).trans (hb3.mono (by omega))).alloc (by omega) _⟩

set_option maxRecDepth 100000 in
set_option maxHeartbeats 1000000 in
theorem back_in (s t : ByteArray) (k r q c : Nat) (w : World) (h0 : 0 < w.heap.size) (h : w.cell? ⟨0, 5, none⟩ = some (.string ⟨#[102, 111, 114, 109]⟩)) (hs : s.size ≤ 6000) (ht : t.size ≤ 5000) (hk : k ≤ s.size)
    (hP : Tells 8 s k r ((c : Int) + 1) 0 0) (hr1 : 1 ≤ r) (hr2 : r ≤ (Pl.begs s.data.toList s.size).length) (hqc : q + c = k) (n2 : Nat) (hn2 : (Pl.begs t.data.toList t.size).length = n2)
    (hP2 : Tells 8 (t ++ ⟨#[10]⟩ ++ s) ((t.size : Int) + 1 + (k : Int)) ((r : Int) + (n2 : Int)) ((c : Int) + 1) 0 0) (hrq : (Pl.begs s.data.toList s.size)[r - 1]?.getD 0 = q) :
    Calls Tryd.prog 5 #[.string s, .string t, .int .i64 k] w fun e w' => e = .returned (.bool true) ∧ Below w.heap.size w w' := by
  have hlen := Pl.begs_len s.data.toList s.size
  have d1 : decide ((6000 : Int) < (s.size : Int)) = false := by simp; omega
  have d2 : decide ((5000 : Int) < (t.size : Int)) = false := by simp; omega
  have d3 : decide ((k : Int) < 0) = false := by simp
  have d4 : decide (s.size < k) = false := by simp; omega
  have d5 : decide ((r : Int) < 1) = false := by simp; omega
  have d6 : decide ((Pl.begs s.data.toList s.size).length < r) = false := by simp; omega
  have d7 : decide ((c : Int) + 1 < 1) = false := by simp; omega
  have d8 : ((q : Int) + ((c : Int) + 1) - 1 != (k : Int)) = false := by simp; omega
  have b1 : q ≤ k := by omega
  have b2 : c ≤ k := by omega
  have HQ := hide hrq
  clear hrq hqc
  have hup := Pl.begs_strict s.data.toList s.size
  have hnl := Pl.begs_nl s.data.toList s.size
  have hall := begs_all s.data.toList s.size
  have hz0 := begs_zero s.data.toList s.size
  go_enter Tryd.func5, Tryd.ntmps5
  go_wp2_with fail
  refine (begun_any _ h0 h).mono ?_
  rintro e w1 ⟨rfl, hb1⟩
  go_wp2_with fail
  refine (lines_yes s _ (by omega)).mono ?_
  rintro e w2 ⟨v, rfl, hown, hb2⟩
  obtain ⟨g, cap, rfl, _, hg, _, _, hcell⟩ := own_cells hown (Pl.begs_pos _ _)
  clear hown
  generalize Pl.begs s.data.toList s.size = L at *
  have HC := hide hcell
  have HU := hide hup
  have HN := hide hnl
  have HA := hide hall
  have HZ := hide hz0
  clear hcell hup hnl hall hz0
  go_wp2_with fail
  refine (hP _).mono ?_
  rintro e w3 ⟨rfl, hb3⟩
  have z1 := hb1.size
  have z2 := hb2.size
  have z3 := hb3.size
  have c1 : ∀ j, j < L.length → w3.cell? ⟨g, j, none⟩ = some (.int .i64 ((L[j]?.getD 0 : Nat) : Int)) := fun j hj => (hb3.cell (p := ⟨g, j, none⟩) hg).trans (HC.out j hj)
  have C1 := hide c1
  have cq := c1 (r - 1) (by omega)
  rw [HQ.out] at cq
  clear c1
  have hg3 : g < w3.heap.size := by omega
  go_wp2
  go_loopw [11] (fun i wr => ∃ j : Nat, j ≤ L.length ∧ i = .int .i64 j ∧ ∃ n, wr = (w3.alloc (Obj.cells #[Value.int IntKind.i64 0, Value.int IntKind.i64 0] 24)).drewN n) (fun i _ => L.length - (intOf i).toNat)
  case atStart => exact ⟨0, Nat.zero_le _, rfl, 0, rfl⟩
  case round =>
    obtain ⟨j, hj, rfl, n, rfl⟩ := hrel
    by_cases hlt : j < L.length
    · have cj := C1.out j hlt
      clear cq
      match j, hlt, cj with
      | 0, hlt, cj =>
        rw [HZ.out] at cj
        go_wp2
        go_quiet (fail)
        go_wp2
        go_roundw
        case rel => exact ⟨1, by omega, rfl, _, rfl⟩
        case measure => simp [intOf]; omega
      | i + 1, hlt, cj =>
        have ci := C1.out i (by omega)
        obtain ⟨m, hm1, hm2, hm3⟩ := HN.out (i + 1) (by omega) hlt
        have hu := HU.out i hlt
        rw [hm1] at cj hu
        have e1 : (s[m].toNat : Int) = 10 := by rw [← Pl.byte_at s m hm2, hm3]; rfl
        have f1 : ((s[m].toNat : Int) != 10) = false := by rw [e1]; rfl
        have f2 : decide ((m : Int) + 1 ≤ ((L[i]?.getD 0 : Nat) : Int)) = false := by simp <;> omega
        have f0 : ((i : Int) + 1 == 0) = false := by simp <;> omega
        have f3 : decide ((0 : Int) < (i : Int) + 1) = true := by simp <;> omega
        have f4 : decide ((s.size : Int) < (m : Int) + 1) = false := by simp <;> omega
        clear e1 hm1 hm3
        generalize L[i]?.getD 0 = x at *
        go_wp2
        go_quiet (fail)
        go_wp2
        go_roundw
        case rel => exact ⟨i + 1 + 1, by omega, by go_num, _, rfl⟩
        case measure => simp [intOf]; omega
    · clear cq d5 d6 d7 d8
      have HN2 := hide hn2
      have hn3 := Pl.begs_len t.data.toList t.size
      rw [hn2] at hn3
      clear hn2
      go_wp2_with fail
      refine (hP2 _).mono ?_
      rintro e w4 ⟨rfl, hb4⟩
      have z4 := hb4.size
      simp at z4
      go_wp2_with fail
      refine (lines_yes t _ (by omega)).mono ?_
      rintro e w5 ⟨v5, rfl, hown5, hb5⟩
      obtain ⟨g5, cap5, rfl, _, _, _, _, _⟩ := own_cells hown5 (Pl.begs_pos _ _)
      rw [HN2.out]
      clear hown5
      have z5 := hb5.size
      simp at z5
      go_wp2
      go_ret
      have hb34 : Below w.heap.size w ((w3.alloc (Obj.cells #[Value.int IntKind.i64 0, Value.int IntKind.i64 0] 24)).drewN n) := below_drewN (((hb1.trans (hb2.mono (by omega))).trans (hb3.mono (by omega))).alloc (by omega) _) _
      exact ⟨rfl, (((hb34.trans (hb4.mono (by simp; omega))).alloc (by omega) _).trans (hb5.mono (by simp; omega)))⟩

theorem cat_list (s t : ByteArray) : (t ++ ⟨#[10]⟩ ++ s).data.toList = t.data.toList ++ 10 :: s.data.toList := by simp
theorem cat_size (s t : ByteArray) : (t ++ (⟨#[10]⟩ : ByteArray) ++ s).size = t.size + 1 + s.size := by
  rw [ByteArray.size_append, ByteArray.size_append]
  rfl

theorem tells_ahead (s t : ByteArray) (k : Nat) (hs : s.size ≤ 6000) (ht : t.size ≤ 5000) (hk : k ≤ s.size) :
    Tells 8 (t ++ ⟨#[10]⟩ ++ s) ((t.size : Int) + 1 + (k : Int)) (((Pl.begs s.data.toList k).length : Int) + ((Pl.begs t.data.toList t.size).length : Int)) (((k - Pl.last s.data.toList k : Nat) : Int) + 1) 0 0 := by
  intro w
  have hsz := cat_size s t
  have hl : t.data.toList.length = t.size := by simp
  have h := place_in (t ++ ⟨#[10]⟩ ++ s) (t.size + 1 + k) w (by omega) (by omega)
  have e1 := Pl.ahead_lines t.data.toList s.data.toList k
  have e2 := Pl.ahead_last t.data.toList s.data.toList k
  rw [hl] at e1 e2
  rw [cat_list, e1, e2, show t.size + 1 + k - (t.size + 1 + Pl.last s.data.toList k) = k - Pl.last s.data.toList k from by omega] at h
  have e3 : ((t.size + 1 + k : Nat) : Int) = (t.size : Int) + 1 + (k : Int) := by omega
  have e4 : (((Pl.begs s.data.toList k).length + (Pl.begs t.data.toList t.size).length : Nat) : Int) = ((Pl.begs s.data.toList k).length : Int) + ((Pl.begs t.data.toList t.size).length : Int) := by omega
  rw [e3, e4] at h
  exact h

theorem back_any (s t : ByteArray) (a : Int) (w : World) (h0 : 0 < w.heap.size) (h : w.cell? ⟨0, 5, none⟩ = some (.string ⟨#[102, 111, 114, 109]⟩)) (hs : s.size ≤ maxLen) (ht : t.size ≤ maxLen) :
    Calls Tryd.prog 5 #[.string s, .string t, .int .i64 a] w fun e w' => e = .returned (.bool true) ∧ Below w.heap.size w w' := by
  by_cases hbig : 6000 < s.size ∨ 5000 < t.size
  · exact back_huge s t a w h0 h hs ht hbig
  have hs6 : s.size ≤ 6000 := by omega
  have ht5 : t.size ≤ 5000 := by omega
  by_cases hb3 : a < 0 ∨ (s.size : Int) < a
  · exact back_range s t a w h0 h hs6 ht5 hb3
  obtain ⟨k, rfl⟩ := Int.eq_ofNat_of_zero_le (show 0 ≤ a by omega)
  have hk : k ≤ s.size := by omega
  have hl := Pl.last_le s.data.toList k
  exact back_in s t k (Pl.begs s.data.toList k).length (Pl.last s.data.toList k) (k - Pl.last s.data.toList k) w h0 h hs6 ht5 hk (fun w => place_in s k w (by omega) hk)
    (Pl.begs_pos _ _) (Pl.begs_len_mono _ _ _ hk) (by omega) _ rfl (tells_ahead s t k hs6 ht5 hk) (Pl.begs_at_last _ _ _ hk)
end Go.Proofs.YtmenmlkclggjjaaDoor

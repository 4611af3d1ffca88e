import Derived.Test.YtibhbbgpeckkfaaRnkA
/- What is wrong with a graph: the document's own. -/
namespace Go.Proofs.Ytibhbbgpeckkfaa
open Go.RowKit

/-- An edge of which a node is none. -/
def gbad (n : Int) (e : Int × Int) : Bool := decide (e.1 < 0) || decide (e.2 < 0) || decide (n ≤ e.1) || decide (n ≤ e.2)
def gfe (n : Int) : Nat → List (Int × Int) → Int × Int
  | _, [] => (0, 0)
  | i, e :: r => if gbad n e then (14, (i : Int)) else gfe n (i + 1) r
def gfl (n : Int) (E : List (Int × Int)) : Int × Int := if n < 0 ∨ 1000 < n ∨ 20000 < E.length then (8, -1) else gfe n 0 E
theorem gfe_step {n : Int} {E : List (Int × Int)} {i : Nat} {e : Int × Int} (he : E[i]? = some e) : gfe n i (E.drop i) = if gbad n e then (14, (i : Int)) else gfe n (i + 1) (E.drop (i + 1)) := by
  have hi := (List.getElem?_eq_some_iff.1 he).1
  have h2 := (List.getElem?_eq_some_iff.1 he).2
  rw [List.drop_eq_getElem_cons hi, h2]
  rfl
set_option maxHeartbeats 400000 in
theorem rf_any (a b : Int) (w : World) : Calls Try.prog 20 #[.int .i64 a, .int .i64 b] w fun e w' => e = .returned (.agg #[.int .i64 a, .int .i64 b]) ∧ Below w.heap.size w w' := by
  go_enter Try.func20, Try.ntmps20
  go_wp2
  refine bodyPost_ret (v := .agg #[.int .i64 a, .int .i64 b]) (by simp [results, Try.results20, go_sem]) rfl ⟨rfl, ?_⟩
  exact (Below.refl _ _).alloc (Nat.le_refl _) _
/-- The answer's box. -/
structure GB (w wr : World) : Prop where
  bl : Below w.heap.size w wr
  r0 : wr.cell? ⟨w.heap.size, 0, none⟩ = some (.int .i64 0)
  r1 : wr.cell? ⟨w.heap.size, 1, none⟩ = some (.int .i64 0)
  f0 : wr.frozen? ⟨w.heap.size, 0, none⟩ = false
  f1 : wr.frozen? ⟨w.heap.size, 1, none⟩ = false
theorem GB.new (w : World) : GB w (w.alloc (.cells #[.int .i64 0, .int .i64 0] 25)) := ⟨(Below.refl _ _).alloc (Nat.le_refl _) _, by simp [go_sem], by simp [go_sem], by simp [go_sem], by simp [go_sem]⟩
theorem GB.go {w wr w' : World} (h : GB w wr) (hk : Below wr.heap.size wr w') : GB w w' :=
  ⟨btrans h.bl hk, bsome hk h.r0, bsome hk h.r1, (hk.frozen (p := ⟨w.heap.size, 0, none⟩) (World.block_lt_of_cell? _ _ h.r0)).trans h.f0, (hk.frozen (p := ⟨w.heap.size, 1, none⟩) (World.block_lt_of_cell? _ _ h.r1)).trans h.f1⟩

set_option maxRecDepth 100000 in
set_option maxHeartbeats 2000000 in
theorem gfault_any (n : Int) (E : List (Int × Int)) (v : Value) (w : World) (h : ER w v E) :
    Calls Try.prog 10 #[.int .i64 n, v] w fun e w' => e = .returned (.agg #[.int .i64 (gfl n E).1, .int .i64 (gfl n E).2]) ∧ Below w.heap.size w w' := by
  obtain ⟨a, c, rfl, h⟩ := h
  by_cases hbad : n < 0 ∨ 1000 < n ∨ 20000 < E.length
  · have e0 : gfl n E = (8, -1) := by unfold gfl; rw [if_pos hbad]
    rw [e0]
    clear e0 h
    by_cases h1 : n < 0
    · go_enter Try.func10, Try.ntmps10
      go_wp2_with fail
      refine (rf_any 8 (-1) _).mono ?_
      rintro e w5 ⟨rfl, hk5⟩
      obtain ⟨k5, r0, r1, f0, f1⟩ := (GB.new w).go hk5
      clear hk5
      go_wp2
      refine bodyPost_ret (v := .agg #[.int .i64 8, .int .i64 (-1)]) (by simp [results, Try.results10, go_sem, r0, r1]) rfl ⟨rfl, ?_⟩
      exact (k5.setCell (by simp) _).setCell (by simp) _
    · have d1 : decide (n < 0) = false := by simpa using h1
      by_cases h2 : 1000 < n
      · go_enter Try.func10, Try.ntmps10
        go_wp2_with fail
        refine (rf_any 8 (-1) _).mono ?_
        rintro e w5 ⟨rfl, hk5⟩
        obtain ⟨k5, r0, r1, f0, f1⟩ := (GB.new w).go hk5
        clear hk5
        go_wp2
        refine bodyPost_ret (v := .agg #[.int .i64 8, .int .i64 (-1)]) (by simp [results, Try.results10, go_sem, r0, r1]) rfl ⟨rfl, ?_⟩
        exact (k5.setCell (by simp) _).setCell (by simp) _
      · have d2 : decide (1000 < n) = false := by simpa using h2
        have d3 : (20000 : Int) < (E.length : Int) := by omega
        clear h1 h2 hbad
        go_enter Try.func10, Try.ntmps10
        go_wp2_with fail
        refine (rf_any 8 (-1) _).mono ?_
        rintro e w5 ⟨rfl, hk5⟩
        obtain ⟨k5, r0, r1, f0, f1⟩ := (GB.new w).go hk5
        clear hk5
        go_wp2
        refine bodyPost_ret (v := .agg #[.int .i64 8, .int .i64 (-1)]) (by simp [results, Try.results10, go_sem, r0, r1]) rfl ⟨rfl, ?_⟩
        exact (k5.setCell (by simp) _).setCell (by simp) _
  · have e0 : gfl n E = gfe n 0 E := by unfold gfl; rw [if_neg hbad]
    rw [e0]
    have d1 : decide (n < 0) = false := by simp; omega
    have d2 : decide (1000 < n) = false := by simp; omega
    have d3 : decide ((20000 : Int) < (E.length : Int)) = false := by simp; omega
    have hl : E.length ≤ 20000 := by omega
    clear e0 hbad
    go_enter Try.func10, Try.ntmps10
    go_wp2
    obtain ⟨W, hW⟩ : ∃ W, w.alloc (.cells #[.int .i64 0, .int .i64 0] 25) = W := ⟨_, rfl⟩
    have HB : Hid (GB w W) := hide (by rw [← hW]; exact GB.new w)
    rw [hW]
    clear hW
    go_loopw [5] (fun iv wr => ∃ i m : Nat, i ≤ E.length ∧ iv = .int .i64 i ∧ wr = W.drewN m ∧ Hid (gfe n 0 E = gfe n i (E.drop i))) (fun iv _ => E.length - (intOf iv).toNat)
    case atStart => exact ⟨0, 0, Nat.zero_le _, rfl, rfl, hide rfl⟩
    case round =>
      obtain ⟨i, m, hi, rfl, rfl, HG⟩ := hrel
      by_cases hlt : i < E.length
      · obtain ⟨x, hx⟩ : ∃ x, E[i]? = some x := ⟨_, List.getElem?_eq_getElem hlt⟩
        obtain ⟨g, o, rfl, q⟩ := h (fun e => by rw [e] at hlt; simp at hlt)
        have c0 := bsome HB.out.bl (q i x hx).1
        have c1 := bsome HB.out.bl (q i x hx).2
        have hi0 : (0 : Int) ≤ (i : Int) := by omega
        have hi1 : (i : Int) < (E.length : Int) := by omega
        have HS := hide (gfe_step (n := n) hx)
        have HD : Hid (GB w (W.drewN m.succ)) := hide (HB.out.go (below_drewN (Below.refl _ _) _))
        clear q hx
        obtain ⟨x1, x2⟩ := x
        simp only at c0 c1
        go_wp2
        go_quiet (fail)
        by_cases b1 : x1 < 0
        · skip
          have eg : gfe n 0 E = (14, (i : Int)) := by rw [HG.out, HS.out, if_pos (by simp [gbad]; omega)]
          have EG := hide eg
          clear HG HS eg
          go_wp2_with fail
          refine (rf_any 14 (i : Int) _).mono ?_
          rintro e w5 ⟨rfl, hk5⟩
          obtain ⟨k5, r0, r1, f0, f1⟩ := (HB.out.go (below_drewN (Below.refl _ _) _)).go hk5
          clear hk5
          go_wp2
          refine bodyPost_ret (v := .agg #[.int .i64 14, .int .i64 (i : Int)]) (by simp [results, Try.results10, go_sem, r0, r1]) rfl ⟨by rw [EG.out], ?_⟩
          exact (k5.setCell (by simp) _).setCell (by simp) _
        · have eb1 : decide (x1 < 0) = false := by simpa using b1
          by_cases b2 : x2 < 0
          · skip
            have eg : gfe n 0 E = (14, (i : Int)) := by rw [HG.out, HS.out, if_pos (by simp [gbad]; omega)]
            have EG := hide eg
            clear HG HS eg
            go_wp2_with fail
            refine (rf_any 14 (i : Int) _).mono ?_
            rintro e w5 ⟨rfl, hk5⟩
            obtain ⟨k5, r0, r1, f0, f1⟩ := (HB.out.go (below_drewN (Below.refl _ _) _)).go hk5
            clear hk5
            go_wp2
            refine bodyPost_ret (v := .agg #[.int .i64 14, .int .i64 (i : Int)]) (by simp [results, Try.results10, go_sem, r0, r1]) rfl ⟨by rw [EG.out], ?_⟩
            exact (k5.setCell (by simp) _).setCell (by simp) _
          · have eb2 : decide (x2 < 0) = false := by simpa using b2
            by_cases b3 : n ≤ x1
            · skip
              have eg : gfe n 0 E = (14, (i : Int)) := by rw [HG.out, HS.out, if_pos (by simp [gbad]; omega)]
              have EG := hide eg
              clear HG HS eg
              go_wp2_with fail
              refine (rf_any 14 (i : Int) _).mono ?_
              rintro e w5 ⟨rfl, hk5⟩
              obtain ⟨k5, r0, r1, f0, f1⟩ := (HB.out.go (below_drewN (Below.refl _ _) _)).go hk5
              clear hk5
              go_wp2
              refine bodyPost_ret (v := .agg #[.int .i64 14, .int .i64 (i : Int)]) (by simp [results, Try.results10, go_sem, r0, r1]) rfl ⟨by rw [EG.out], ?_⟩
              exact (k5.setCell (by simp) _).setCell (by simp) _
            · have eb3 : decide (n ≤ x1) = false := by simpa using b3
              by_cases b4 : n ≤ x2
              · skip
                have eg : gfe n 0 E = (14, (i : Int)) := by rw [HG.out, HS.out, if_pos (by simp [gbad]; omega)]
                have EG := hide eg
                clear HG HS eg
                go_wp2_with fail
                refine (rf_any 14 (i : Int) _).mono ?_
                rintro e w5 ⟨rfl, hk5⟩
                obtain ⟨k5, r0, r1, f0, f1⟩ := (HB.out.go (below_drewN (Below.refl _ _) _)).go hk5
                clear hk5
                go_wp2
                refine bodyPost_ret (v := .agg #[.int .i64 14, .int .i64 (i : Int)]) (by simp [results, Try.results10, go_sem, r0, r1]) rfl ⟨by rw [EG.out], ?_⟩
                exact (k5.setCell (by simp) _).setCell (by simp) _
              · have eb4 : decide (n ≤ x2) = false := by simpa using b4
                have HN : Hid (gfe n 0 E = gfe n (i + 1) (E.drop (i + 1))) := hide (by rw [HG.out, HS.out, if_neg (by simp [gbad]; omega)])
                clear HG HS b1 b2 b3 b4
                go_wp2
                go_roundw
                case rel => exact ⟨i + 1, _, by omega, by go_num, rfl, HN⟩
                case measure => simp [intOf]; omega
      · obtain rfl : i = E.length := by omega
        have dd : decide ((E.length : Int) < (E.length : Int)) = false := by simp
        have eg : gfe n 0 E = (0, 0) := by rw [HG.out, List.drop_length]; rfl
        have EG := hide eg
        obtain ⟨k5, r0, r1, f0, f1⟩ := HB.out.go (below_drewN (Below.refl _ _) m)
        clear HG eg
        go_wp2
        refine bodyPost_ret (v := .agg #[.int .i64 0, .int .i64 0]) (by simp [results, Try.results10, go_sem, r0, r1]) rfl ⟨by rw [EG.out], ?_⟩
        exact (k5.setCell (by simp) _).setCell (by simp) _
end Go.Proofs.Ytibhbbgpeckkfaa

import Derived.Test.YtbepaimbbclejaaStA
import Derived.Test.YtbepaimbbclejaaChDe
import Derived.BigQuiet
/- Package chans: which channel an end is of; may one send, receive? -/
namespace Go.Proofs.Ytbepaimbbclejaa
open Go.RowKit

set_option maxRecDepth 100000
set_option maxHeartbeats 1000000
theorem isTask_any (h : Int) (w : World) : Calls Try.prog 38 #[.int .i64 h] w fun e w' => e = .returned (.bool (decide (0 ≤ h))) ∧ w' = w := by
  go_enter Try.func38, Try.ntmps38
  go_wp2
  go_ret
  exact ⟨rfl, rfl⟩
theorem isEnd_any (n en : Int) (w : World) : Calls Try.prog 45 #[.agg #[.int .i64 n, .int .i64 en]] w fun e w' => e = .returned (.bool (decide (0 ≤ en))) ∧ Below w.heap.size w w' := by
  go_enter Try.func45, Try.ntmps45
  go_wp2
  go_ret
  exact ⟨rfl, (Below.refl _ _).alloc (Nat.le_refl _) _⟩
/-- An item as it is kept. -/
def Bk.pln (n en : Int) : Int × Int := if 0 ≤ en then (0, en) else (n, -1)
theorem plain_any (n en : Int) (w : World) : Calls Try.prog 42 #[.agg #[.int .i64 n, .int .i64 en]] w fun e w' => e = .returned (.agg #[.int .i64 (Bk.pln n en).1, .int .i64 (Bk.pln n en).2]) ∧ Below w.heap.size w w' := by
  have HI := hide (isEnd_any n en)
  have hb0 : Below w.heap.size w ((w.alloc (.cells #[.int .i64 n, .int .i64 en] 59)).alloc (.cells #[.int .i64 0, .int .i64 0] 59)) := ((Below.refl _ _).alloc (Nat.le_refl _) _).alloc (by simp) _
  obtain ⟨W, hW⟩ : ∃ W, (w.alloc (.cells #[.int .i64 n, .int .i64 en] 59)).alloc (.cells #[.int .i64 0, .int .i64 0] 59) = W := ⟨_, rfl⟩
  have hWs : W.heap.size = w.heap.size + 2 := by rw [← hW]; simp
  have r0 : W.cell? ⟨w.heap.size, 0, none⟩ = some (.int .i64 n) ∧ W.cell? ⟨w.heap.size, 1, none⟩ = some (.int .i64 en) := by rw [← hW]; constructor <;> simp [go_sem]
  have n0 : W.cell? ⟨w.heap.size + 1, 0, none⟩ = some (.int .i64 0) ∧ W.cell? ⟨w.heap.size + 1, 1, none⟩ = some (.int .i64 0) := by rw [← hW]; constructor <;> simp [go_sem]
  have nf : W.frozen? ⟨w.heap.size + 1, 0, none⟩ = false ∧ W.frozen? ⟨w.heap.size + 1, 1, none⟩ = false := by rw [← hW]; constructor <;> simp [go_sem]
  rw [hW] at hb0
  have HW := hide hW
  clear hW
  unfold Bk.pln
  by_cases hen : 0 ≤ en
  · rw [if_pos hen]
    rw [decide_eq_true hen] at HI
    clear hen
    go_enter Try.func42, Try.ntmps42
    go_wp2_with fail
    rw [HW.out]
    refine (HI.out _).mono ?_
    rintro e w1 ⟨rfl, hb⟩
    have d0 := bsome hb r0.1
    have d1 := bsome hb r0.2
    have d2 := bsome hb n0.1
    have d3 := bsome hb n0.2
    have d4 : w1.frozen? ⟨w.heap.size + 1, 0, none⟩ = false := (hb.frozen (p := ⟨w.heap.size + 1, 0, none⟩) (by simp [hWs])).trans nf.1
    have d5 : w1.frozen? ⟨w.heap.size + 1, 1, none⟩ = false := (hb.frozen (p := ⟨w.heap.size + 1, 1, none⟩) (by simp [hWs])).trans nf.2
    have HB := hide (btrans hb0 (hb.mono (Nat.le_refl _)))
    clear hb0 hb r0 n0 nf hWs HW
    go_wp2
    refine bodyPost_ret (v := .agg #[.int .i64 0, .int .i64 en]) (by simp [results, Try.results42, go_sem, d2, d3]) rfl ⟨rfl, ?_⟩
    exact bset (bset HB.out (p := ⟨w.heap.size + 1, 0, none⟩) (by simp) _) (p := ⟨w.heap.size + 1, 1, none⟩) (by simp) _
  · rw [if_neg hen]
    rw [decide_eq_false hen] at HI
    clear hen
    go_enter Try.func42, Try.ntmps42
    go_wp2_with fail
    rw [HW.out]
    refine (HI.out _).mono ?_
    rintro e w1 ⟨rfl, hb⟩
    have d0 := bsome hb r0.1
    have d1 := bsome hb r0.2
    have d2 := bsome hb n0.1
    have d3 := bsome hb n0.2
    have d4 : w1.frozen? ⟨w.heap.size + 1, 0, none⟩ = false := (hb.frozen (p := ⟨w.heap.size + 1, 0, none⟩) (by simp [hWs])).trans nf.1
    have d5 : w1.frozen? ⟨w.heap.size + 1, 1, none⟩ = false := (hb.frozen (p := ⟨w.heap.size + 1, 1, none⟩) (by simp [hWs])).trans nf.2
    have HB := hide (btrans hb0 (hb.mono (Nat.le_refl _)))
    clear hb0 hb r0 n0 nf hWs HW
    go_wp2
    refine bodyPost_ret (v := .agg #[.int .i64 n, .int .i64 (-1)]) (by simp [results, Try.results42, go_sem, d2, d3]) rfl ⟨rfl, ?_⟩
    exact bset (bset HB.out (p := ⟨w.heap.size + 1, 0, none⟩) (by simp) _) (p := ⟨w.heap.size + 1, 1, none⟩) (by simp) _
theorem stopS_any {B : Nat} {w : World} {p : Pl} {s n : Int} {M : List (Int × Int)} {g : Bool} (h : CH B w p s n M g) : Calls Try.prog 22 #[.pointer (some ⟨p.1, 0, none⟩)] w fun e w' => e = .returned (.bool (!g && fullJ s.toNat M)) ∧ ∃ m, w' = w.drewN m := by
  obtain ⟨C, f, h1, -⟩ := id h.r
  have HF := hide (fullj h1 _ h.r.full)
  generalize fullJ s.toNat M = b at *
  have c0 := h.c0
  have c2 := h.c2
  clear h1 h
  cases g with
  | true =>
    go_enter Try.func22, Try.ntmps22
    go_wp2
    go_ret
    exact ⟨rfl, 0, rfl⟩
  | false =>
    go_enter Try.func22, Try.ntmps22
    go_wp2_with fail
    refine HF.out.mono ?_
    rintro e w1 ⟨rfl, m, rfl⟩
    go_wp2
    go_ret
    exact ⟨rfl, m, rfl⟩
theorem stopR_any {B : Nat} {w : World} {p : Pl} {s n : Int} {M : List (Int × Int)} {g : Bool} (h : CH B w p s n M g) : Calls Try.prog 24 #[.pointer (some ⟨p.1, 0, none⟩)] w fun e w' => e = .returned (.bool (decide (M.length = 0) && decide (0 < n))) ∧ w' = w := by
  have HL := hide (lenj h.r)
  have c0 := h.c0
  have c1 := h.c1
  clear h
  by_cases hl : M.length = 0
  · have d1 : ((M.length : Int) == 0) = true := by rw [hl]; rfl
    rw [decide_eq_true hl]
    clear hl
    go_enter Try.func24, Try.ntmps24
    go_wp2_with fail
    refine HL.out.mono ?_
    rintro e w1 ⟨rfl, rfl⟩
    go_wp2
    go_ret
    exact ⟨rfl, rfl⟩
  · have d1 : ((M.length : Int) == 0) = false := by rw [beq_eq_false_iff_ne]; omega
    rw [decide_eq_false hl]
    clear hl
    go_enter Try.func24, Try.ntmps24
    go_wp2_with fail
    refine HL.out.mono ?_
    rintro e w1 ⟨rfl, rfl⟩
    go_wp2
    go_ret
    exact ⟨rfl, rfl⟩
end Go.Proofs.Ytbepaimbbclejaa

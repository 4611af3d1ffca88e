import Derived.Test.YtbepaimbbclejaaChI
/- The document's book: Take. -/
namespace Go.Proofs.Ytbepaimbbclejaa
open Go.RowKit

set_option maxRecDepth 100000
set_option maxHeartbeats 2000000
theorem btake_no {B : Nat} {w : World} {q : Nat} {ve vs vi vg : Value} {iv : List Value} {E : List En} {S : List Int} {I : List (List (Int × Int))} {G : List Bool} (h : BK B w q ve vs vi vg iv E S I G) (o : BOk E S I G) (e tk : Int) (hn : Bk.there E e false = false ∨ Bk.waits E S I G e = true ∨ tk < 0) :
    Calls Try.prog 31 #[.pointer (some ⟨q, 0, none⟩), .int .i64 e, .int .i64 tk] w fun r w' => r = .returned (.tuple #[.agg #[.int .i64 0, .int .i64 0], .int .i64 (-1)]) ∧ Below w.heap.size w w' := by
  have hb0 : Below w.heap.size w (w.alloc (.cells #[.int .i64 0, .int .i64 0] 59)) := (Below.refl _ _).alloc (Nat.le_refl _) _
  have HT := hide (bthere_any (h.keep hb0).lg e false)
  have HWt := hide (fun w' (hb : Below w.heap.size w w') => bwaits_any (h.keep hb) o e)
  have HB0 := hide hb0
  clear hb0
  cases h1 : Bk.there E e false with
  | false =>
    rw [h1] at HT
    clear h o hn HWt
    go_enter Try.func31, Try.ntmps31
    go_wp2_with fail
    refine HT.out.mono ?_
    rintro r w1 ⟨rfl, hb⟩
    have z0 := bsome hb (p := ⟨w.heap.size, 0, none⟩) (v := .int .i64 0) (by simp [go_sem])
    have z1 := bsome hb (p := ⟨w.heap.size, 1, none⟩) (v := .int .i64 0) (by simp [go_sem])
    have f0 : w1.frozen? ⟨w.heap.size, 0, none⟩ = false := (hb.frozen (p := ⟨w.heap.size, 0, none⟩) (by simp)).trans (by simp [go_sem])
    have f1 : w1.frozen? ⟨w.heap.size, 1, none⟩ = false := (hb.frozen (p := ⟨w.heap.size, 1, none⟩) (by simp)).trans (by simp [go_sem])
    have HB1 := hide (btrans HB0.out hb)
    clear hb
    go_wp2
    exact bodyPost_ret (v := .tuple #[.agg #[.int .i64 0, .int .i64 0], .int .i64 (-1)]) (by simp [results, Try.results31, go_sem, z0, z1]) rfl ⟨rfl, bset (bset HB1.out (p := ⟨w.heap.size, 0, none⟩) (Nat.le_refl _) _) (p := ⟨w.heap.size, 1, none⟩) (Nat.le_refl _) _⟩
  | true =>
    rw [h1] at HT hn
    have hn : Bk.waits E S I G e = true ∨ tk < 0 := hn.elim (fun h => by cases h) id
    clear h o
    generalize Bk.waits E S I G e = wt at *
    obtain ⟨tb, htb⟩ : ∃ tb, decide (tk < 0) = tb := ⟨_, rfl⟩
    have HN : Hid (wt = true ∨ tb = true) := hide (hn.imp id (fun h => by rw [← htb]; exact decide_eq_true h))
    clear hn
    go_enter Try.func31, Try.ntmps31
    go_wp2_with fail
    refine HT.out.mono ?_
    rintro r w1 ⟨rfl, hb⟩
    have z0 := bsome hb (p := ⟨w.heap.size, 0, none⟩) (v := .int .i64 0) (by simp [go_sem])
    have z1 := bsome hb (p := ⟨w.heap.size, 1, none⟩) (v := .int .i64 0) (by simp [go_sem])
    have f0 : w1.frozen? ⟨w.heap.size, 0, none⟩ = false := (hb.frozen (p := ⟨w.heap.size, 0, none⟩) (by simp)).trans (by simp [go_sem])
    have f1 : w1.frozen? ⟨w.heap.size, 1, none⟩ = false := (hb.frozen (p := ⟨w.heap.size, 1, none⟩) (by simp)).trans (by simp [go_sem])
    have HB1 := hide (btrans HB0.out hb)
    clear hb
    go_wp2_with fail
    refine (HWt.out _ HB1.out).mono ?_
    rintro r w2 ⟨rfl, hb⟩
    have hl1 : w.heap.size < w1.heap.size := World.block_lt_of_cell? _ _ z0
    have z0 := bsome hb z0
    have z1 := bsome hb z1
    have f0 : w2.frozen? ⟨w.heap.size, 0, none⟩ = false := (hb.frozen (p := ⟨w.heap.size, 0, none⟩) hl1).trans f0
    have f1 : w2.frozen? ⟨w.heap.size, 1, none⟩ = false := (hb.frozen (p := ⟨w.heap.size, 1, none⟩) hl1).trans f1
    have HB2 := hide (btrans HB1.out hb)
    clear hb hl1
    cases wt with
    | true =>
      go_wp2
      exact bodyPost_ret (v := .tuple #[.agg #[.int .i64 0, .int .i64 0], .int .i64 (-1)]) (by simp [results, Try.results31, go_sem, z0, z1]) rfl ⟨rfl, bset (bset HB2.out (p := ⟨w.heap.size, 0, none⟩) (Nat.le_refl _) _) (p := ⟨w.heap.size, 1, none⟩) (Nat.le_refl _) _⟩
    | false =>
      obtain rfl : tb = true := HN.out.elim (fun h => by cases h) id
      go_wp2
      exact bodyPost_ret (v := .tuple #[.agg #[.int .i64 0, .int .i64 0], .int .i64 (-1)]) (by simp [results, Try.results31, go_sem, z0, z1]) rfl ⟨rfl, bset (bset HB2.out (p := ⟨w.heap.size, 0, none⟩) (Nat.le_refl _) _) (p := ⟨w.heap.size, 1, none⟩) (Nat.le_refl _) _⟩
end Go.Proofs.Ytbepaimbbclejaa

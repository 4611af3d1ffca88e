import Derived.Test.YtbepaimbbclejaaLdA
import Derived.BigQuiet
import Derived.BigRegion
/- Package ledger: small functions. -/
namespace Go.Proofs.Ytbepaimbbclejaa
open Go.RowKit

theorem Try.infoEn : (Try.prog.info? 48).map (fun i => (i.zero, i.size, i.bytes)) = some (some (.agg #[.int .i64 0, .bool false, .int .i64 0, .int .i64 0]), 4, 32) := by kernel_rfl
set_option maxRecDepth 100000
set_option maxHeartbeats 1000000
theorem bset {w0 w : World} (h : Below w0.heap.size w0 w) {p : Addr} (hp : w0.heap.size ≤ p.block) (u : Value) : Below w0.heap.size w0 (w.setCell p u) := ((Kx.of_below (X := fun _ => True) h).set (.inl hp) u).below
theorem bset4 {w0 w : World} (h : Below w0.heap.size w0 w) {b : Nat} (hb : w0.heap.size ≤ b) (u0 u1 u2 u3 : Value) : Below w0.heap.size w0 ((((w.setCell ⟨b, 0, none⟩ u0).setCell ⟨b, 1, none⟩ u1).setCell ⟨b, 2, none⟩ u2).setCell ⟨b, 3, none⟩ u3) :=
  bset (bset (bset (bset h (p := ⟨b, 0, none⟩) hb u0) (p := ⟨b, 1, none⟩) hb u1) (p := ⟨b, 2, none⟩) hb u2) (p := ⟨b, 3, none⟩) hb u3
theorem ldNew_any (w : World) : Calls Try.prog 20 #[] w fun e w' => e = .returned (.pointer (some ⟨w.heap.size, 0, none⟩)) ∧ LG w.heap.size w' w.heap.size (.slice none 0 0) [] ∧ Below w.heap.size w w' := by
  go_enter Try.func20, Try.ntmps20
  go_wp2
  go_ret
  refine ⟨rfl, ⟨by simp [go_sem], fun k => by simp [go_sem], Nat.le_refl _, World.ownsRow_nil _ _ _ _, fun h => by cases h⟩, (Below.refl _ _).alloc (Nat.le_refl _) _⟩
theorem isHome_any (h : Int) (w : World) : Calls Try.prog 54 #[.int .i64 h] w fun e w' => e = .returned (.bool (decide (-1 ≤ h))) ∧ w' = w := by
  go_enter Try.func54, Try.ntmps54
  go_wp2
  go_ret
  exact ⟨rfl, rfl⟩
theorem dropped_any (x : En) (w : World) : Calls Try.prog 56 #[.agg #[.int .i64 x.c, .bool x.s, .int .i64 x.h, .int .i64 x.d]] w fun e w' => e = .returned (.bool (x.h == -2)) ∧ Below w.heap.size w w' := by
  go_enter Try.func56, Try.ntmps56
  go_wp2
  go_ret
  exact ⟨rfl, (Below.refl _ _).alloc (Nat.le_refl _) _⟩
theorem has_any {B : Nat} {w : World} {p : Nat} {v : Value} {L : List En} (h : LG B w p v L) (e : Int) : Calls Try.prog 36 #[.pointer (some ⟨p, 0, none⟩), .int .i64 e] w fun r w' => r = .returned (.bool (Ld.has L e)) ∧ w' = w := by
  obtain ⟨a, c, rfl⟩ := h.form
  have hc := h.c
  clear h
  unfold Ld.has
  by_cases h0 : 0 ≤ e
  · go_enter Try.func36, Try.ntmps36
    go_wp2
    go_ret
    simp [h0]
  · go_enter Try.func36, Try.ntmps36
    go_wp2
    go_ret
    simp
    omega
theorem end_any {B : Nat} {w : World} {p : Nat} {v : Value} {L : List En} (h : LG B w p v L) (e : Int) : Calls Try.prog 15 #[.pointer (some ⟨p, 0, none⟩), .int .i64 e] w fun r w' => r = .returned (.tuple #[.agg #[.int .i64 (Ld.at L e).c, .bool (Ld.at L e).s, .int .i64 (Ld.at L e).h, .int .i64 (Ld.at L e).d], .bool (Ld.has L e)]) ∧ Below w.heap.size w w' := by
  have hp := h.plt
  have hh := hide (has_any (h.keep ((Below.refl _ _).alloc (Nat.le_refl _) (.cells #[.int .i64 0, .bool false, .int .i64 0, .int .i64 0] 48))) e)
  rcases Ld.cs L e with ⟨k, x, rfl, hx, hk, h1, h2⟩ | ⟨h1, h2, -⟩
  · obtain ⟨g, c, rfl, hgp, c1, c2, c3, c4, -⟩ := h.at hx
    have hc := h.c
    rw [h1] at hh
    rw [h1, h2]
    have k0 : (0 : Int) ≤ (k : Int) := by omega
    have k1 : (k : Int) < (L.length : Int) := by omega
    have hg := World.block_lt_of_cell? _ _ c1
    have hgz : g ≠ w.heap.size := fun e => by rw [e] at hg; exact absurd hg (Nat.lt_irrefl _)
    clear h hx
    go_enter Try.func15, Try.ntmps15
    go_wp2_with fail
    refine hh.out.mono ?_
    rintro e w1 ⟨rfl, rfl⟩
    go_wp2
    refine bodyPost_ret (v := .tuple #[.agg #[.int .i64 x.c, .bool x.s, .int .i64 x.h, .int .i64 x.d], .bool true]) (by simp [results, Try.results15, go_sem]) rfl ⟨rfl, ?_⟩
    exact (Below.refl _ _).alloc (Nat.le_refl _) _
  · rw [h1] at hh
    rw [h1, h2]
    clear h
    go_enter Try.func15, Try.ntmps15
    go_wp2_with fail
    refine hh.out.mono ?_
    rintro e w1 ⟨rfl, rfl⟩
    go_wp2
    refine bodyPost_ret (v := .tuple #[.agg #[.int .i64 0, .bool false, .int .i64 0, .int .i64 0], .bool false]) (by simp [results, Try.results15, go_sem]) rfl ⟨rfl, ?_⟩
    exact (Below.refl _ _).alloc (Nat.le_refl _) _
end Go.Proofs.Ytbepaimbbclejaa

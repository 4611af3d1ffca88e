import Derived.Test.YtbepaimbbclejaaStV
import Derived.Test.YtbepaimbbclejaaStWd
import Derived.Test.YtbepaimbbclejaaStX
/- Channels: a step; how the laws begin. -/
namespace Go.Proofs.Ytbepaimbbclejaa
open Go.RowKit

theorem done_any {F1 F2 : Nat → Prop} {B : Nat} {w : World} {q b k1 k2 : Nat} {s1 s2 : Cst} (h1 : SX F1 B w q s1) (h2 : BX F2 B w b s2) (hd : ∀ x, F1 x → ¬ F2 x) (w1 : Wf k1 s1) (w2 : Wf k2 s2) (hk : k1 ≤ 1000) (hB : B ≤ w.heap.size) (d e t n : Int) (g : Bool) :
    Calls Try.prog 9 #[.pointer (some ⟨q, 0, none⟩), .pointer (some ⟨b, 0, none⟩), .agg #[.int .i64 d, .int .i64 e, .int .i64 t, .int .i64 n, .bool g]] w fun r w' => ∃ u, r = .returned (.bool u) ∧ (s1 = s2 → u = true) ∧ DN F1 F2 B w q b (Bk.op (Bk.dig d) e t n g s1) (Bk.op (Bk.dig d) e t n g s2) w' := by
  obtain ⟨hlt, heq⟩ := Bk.dig_lt d
  generalize Bk.dig d = m at *
  match m, hlt, heq with
  | 0, _, h => exact done_0 h1 h2 hd w1 w2 hk hB d e t n g h
  | 1, _, h => exact done_1 h1 h2 hd w1 w2 hk hB d e t n g h
  | 2, _, h => exact done_2 h1 h2 hd w1 w2 hk hB d e t n g h
  | 3, _, h => exact done_3 h1 h2 hd w1 w2 hk hB d e t n g h
  | 4, _, h => exact done_4 h1 h2 hd w1 w2 hk hB d e t n g h
  | 5, _, h => exact done_5 h1 h2 hd w1 w2 hk hB d e t n g h
  | 6, _, h => exact done_6 h1 h2 hd w1 w2 hk hB d e t n g h
  | 7, _, h => exact done_7 h1 h2 hd w1 w2 hk hB d e t n g h
  | 8, _, h => exact done_8 h1 h2 hd w1 w2 hk hB d e t n g h
  | 9, _, h => exact done_9 h1 h2 hd w1 w2 hk hB d e t n g h
  | k + 10, h, _ => omega
theorem US.get {F : Nat → Prop} {B : Nat} {w w' : World} {q : Nat} {s : Cst} (h : US F B w q s w') (hB : B ≤ w.heap.size) {w0 : World} (hb : Below B w0 w) (hF : ∀ b, F b → B ≤ b) : ∃ F', SX F' B w' q s ∧ Below B w0 w' ∧ ∀ b, F' b → B ≤ b := by
  obtain ⟨F', h1, h2, h3⟩ := h
  exact ⟨F', h1, ⟨h2.os.trans hb.os, h2.tape.trans hb.tape, h2.output.trans hb.output, Nat.le_trans hb.size h2.size, fun k hk => (h2.block k (by omega) (fun e => by have := hF k e; omega)).trans (hb.block k hk)⟩, fun b hb' => (h1.lt b hb').1⟩
def Cb1 : Cst := Bk.mk Bk.c0 1 0
def Cb2 : Cst := Bk.pt Cb1 0 5 (-1)
def Cb3 : Cst := Bk.tk Cb2 1 0
def Cb4 : Cst := Bk.dp Cb3 0
theorem Cb_facts : Bk.mkA Bk.c0 0 = 0 ∧ Bk.mkB Bk.c0 0 = 1 ∧ Bk.ptQ Cb1 0 (-1) = true ∧ Bk.wt Cb2 0 = true ∧ Bk.tkR Cb2 1 0 = ((5, -1), 1) ∧ Bk.wt Cb3 1 = true ∧ (Bk.dpR Cb3 0).2 = true ∧ Bk.wt Cb4 1 = false := by
  refine ⟨by decide, by decide, by decide, by decide, by decide, by decide, by decide, by decide⟩
theorem Cb_wf : Wf 1 Cb1 ∧ Wf 2 Cb2 ∧ Wf 2 Cb3 ∧ Wf 2 Cb4 := by
  have a1 : Wf 1 Cb1 := Wf.c0.mke (by omega) 1 0
  have a2 : Wf 2 Cb2 := a1.pt (by omega) 0 5 (-1)
  have a3 : Wf 2 Cb3 := a2.tk (by omega) 1 0
  exact ⟨a1, a2, a3, a3.dp 0⟩
set_option maxRecDepth 100000
set_option maxHeartbeats 1000000
theorem chBegun_any (w : World) : Calls Try.prog 5 #[] w fun e w' => e = .returned (.bool true) ∧ Below w.heap.size w w' := by
  obtain ⟨f1, f2, f3, f4, f5, f6, f7, f8⟩ := Cb_facts
  obtain ⟨g1, g2, g3, g4⟩ := Cb_wf
  have CN := hide (SX.new w)
  have C1 : Hid (∀ F X q, SX F w.heap.size X q Bk.c0 → w.heap.size ≤ X.heap.size → Calls Try.prog 17 #[.pointer (some ⟨q, 0, none⟩), .int .i64 1, .int .i64 0] X fun r w' => r = .returned (.tuple #[.int .i64 0, .int .i64 1]) ∧ US F w.heap.size X q Cb1 w') := hide (fun F X q h hB => by
    have := h.mk Wf.c0 hB 1 0
    rw [f1, f2] at this
    exact this)
  have C2 : Hid (∀ F X q, SX F w.heap.size X q Cb1 → w.heap.size ≤ X.heap.size → Calls Try.prog 18 #[.pointer (some ⟨q, 0, none⟩), .int .i64 0, .agg #[.int .i64 5, .int .i64 (-1)]] X fun r w' => r = .returned (.bool true) ∧ US F w.heap.size X q Cb2 w') := hide (fun F X q h hB => by
    have := h.pt g1 (by omega) hB 0 5 (-1)
    rw [f3] at this
    exact this)
  have C3 : Hid (∀ F X q, SX F w.heap.size X q Cb2 → Calls Try.prog 7 #[.pointer (some ⟨q, 0, none⟩), .int .i64 0] X fun r w' => r = .returned (.bool true) ∧ Below X.heap.size X w') := hide (fun F X q h => by
    have := h.wt g2 0
    rw [f4] at this
    exact this)
  have C4 : Hid (∀ F X q, SX F w.heap.size X q Cb2 → w.heap.size ≤ X.heap.size → Calls Try.prog 19 #[.pointer (some ⟨q, 0, none⟩), .int .i64 1, .int .i64 0] X fun r w' => r = .returned (.tuple #[.agg #[.int .i64 5, .int .i64 (-1)], .int .i64 1]) ∧ US F w.heap.size X q Cb3 w') := hide (fun F X q h hB => by
    have := h.tk g2 hB 1 0
    rw [f5] at this
    exact this)
  have C5 : Hid (∀ F X q, SX F w.heap.size X q Cb3 → Calls Try.prog 7 #[.pointer (some ⟨q, 0, none⟩), .int .i64 1] X fun r w' => r = .returned (.bool true) ∧ Below X.heap.size X w') := hide (fun F X q h => by
    have := h.wt g3 1
    rw [f6] at this
    exact this)
  have C6 : Hid (∀ F X q, SX F w.heap.size X q Cb3 → Calls Try.prog 16 #[.pointer (some ⟨q, 0, none⟩), .int .i64 0] X fun r w' => r = .returned (.bool true) ∧ US F w.heap.size X q Cb4 w') := hide (fun F X q h => by
    have := h.dp g3 (by omega) 0
    rw [f7] at this
    exact this)
  have C7 : Hid (∀ F X q, SX F w.heap.size X q Cb4 → Calls Try.prog 7 #[.pointer (some ⟨q, 0, none⟩), .int .i64 1] X fun r w' => r = .returned (.bool false) ∧ Below X.heap.size X w') := hide (fun F X q h => by
    have := h.wt g4 1
    rw [f8] at this
    exact this)
  clear f1 f2 f3 f4 f5 f6 f7 f8 g1 g2 g3 g4
  go_enter Try.func5, Try.ntmps5
  go_wp2_with fail
  refine CN.out.mono ?_
  rintro e X0 ⟨q, rfl, ⟨F0, x0⟩, b0⟩
  have H0 := hide (And.intro x0 b0)
  clear x0 b0
  go_wp2_with fail
  refine (C1.out _ _ _ H0.out.1 H0.out.2.size).mono ?_
  rintro e X1 ⟨rfl, u1⟩
  obtain ⟨F1, x1, b1, l1⟩ := u1.get H0.out.2.size H0.out.2 (fun b hb => (H0.out.1.lt b hb).1)
  have H1 := hide (And.intro x1 b1)
  clear x1 b1 l1 u1
  go_wp2_with fail
  refine (C2.out _ _ _ H1.out.1 H1.out.2.size).mono ?_
  rintro e X2 ⟨rfl, u2⟩
  obtain ⟨F2, x2, b2, l2⟩ := u2.get H1.out.2.size H1.out.2 (fun b hb => (H1.out.1.lt b hb).1)
  have H2 := hide (And.intro x2 b2)
  clear x2 b2 l2 u2
  go_wp2_with fail
  refine (C3.out _ _ _ H2.out.1).mono ?_
  rintro e X3 ⟨rfl, b3⟩
  have H3 := hide (And.intro (H2.out.1.keep (Kx.of_below b3)) (btrans H2.out.2 b3))
  clear b3
  go_wp2_with fail
  refine (C4.out _ _ _ H3.out.1 H3.out.2.size).mono ?_
  rintro e X4 ⟨rfl, u4⟩
  obtain ⟨F4, x4, b4, l4⟩ := u4.get H3.out.2.size H3.out.2 (fun b hb => (H3.out.1.lt b hb).1)
  have b5 : Below X4.heap.size X4 (X4.alloc (.cells #[.int .i64 5, .int .i64 (-1)] 59)) := (Below.refl _ _).alloc (Nat.le_refl _) _
  have H4 := hide (And.intro (x4.keep (Kx.of_below b5)) (btrans b4 b5))
  have z0 : (X4.alloc (.cells #[.int .i64 5, .int .i64 (-1)] 59)).cell? ⟨X4.heap.size, 0, none⟩ = some (.int .i64 5) := by simp [go_sem]
  clear x4 b4 l4 u4 b5
  go_wp2_with fail
  refine (C5.out _ _ _ H4.out.1).mono ?_
  rintro e X5 ⟨rfl, b5⟩
  have H5 := hide (And.intro (H4.out.1.keep (Kx.of_below b5)) (btrans H4.out.2 b5))
  clear b5
  go_wp2_with fail
  refine (C6.out _ _ _ H5.out.1).mono ?_
  rintro e X6 ⟨rfl, u6⟩
  obtain ⟨F6, x6, b6, l6⟩ := u6.get H5.out.2.size H5.out.2 (fun b hb => (H5.out.1.lt b hb).1)
  have H6 := hide (And.intro x6 b6)
  clear x6 b6 l6 u6
  go_wp2_with fail
  refine (C7.out _ _ _ H6.out.1).mono ?_
  rintro e X7 ⟨rfl, b7⟩
  have H7 := hide (btrans H6.out.2 b7)
  clear b7
  go_wp2
  go_ret
  exact ⟨rfl, H7.out⟩
end Go.Proofs.Ytbepaimbbclejaa

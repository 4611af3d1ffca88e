import Derived.Test.YtbepaimbbclejaaChJ
/- The document's book: Take of an item. -/
namespace Go.Proofs.Ytbepaimbbclejaa
open Go.RowKit

theorem cset {W : World} {g c b o : Nat} {v u : Value} (hb : ¬ b = g) (h : W.cell? ⟨b, o, none⟩ = some u) : (W.setCell ⟨g, c, none⟩ v).cell? ⟨b, o, none⟩ = some u := by
  rw [World.cell?_setCell_other _ _ _ _ (fun e' => by injection e' with e1; omega)]
  exact h
theorem fset {W : World} {g c b o : Nat} {v : Value} (h : W.frozen? ⟨b, o, none⟩ = false) : (W.setCell ⟨g, c, none⟩ v).frozen? ⟨b, o, none⟩ = false := by
  rw [World.frozen?_setCell]; exact h
/-- The ends, when an item was taken. -/
def Bk.given (E : List En) (j tk : Int) : List En := if 0 ≤ j ∧ (Ld.at E j).h ≠ -2 then E.set j.toNat { Ld.at E j with h := tk } else E
section
variable {B : Nat} {w : World} {q : Nat} {ve vs vi vg : Value} {iv : List Value} {E : List En} {S : List Int} {I : List (List (Int × Int))} {G : List Bool}
theorem BK.two (h : BK B w q ve vs vi vg iv E S I G) {br : Nat} (hn : ∀ j : Nat, (obs q ve vs vi vg iv)[j]? ≠ some (some br)) (u0 u1 : Value) : BK B ((w.setCell ⟨br, 0, none⟩ u0).setCell ⟨br, 1, none⟩ u1) q ve vs vi vg iv E S I G :=
  h.keepX (X := fun b => b ≠ br) (((Kx.refl _ _).set (p := ⟨br, 0, none⟩) (.inr (fun e => e rfl)) _).set (p := ⟨br, 1, none⟩) (.inr (fun e => e rfl)) _) (fun j b hj e => hn j (by rw [← e]; exact hj))
theorem BC.two {w0 : World} {o o' : List (Option Nat)} (h : BC w0 w o o') {br : Nat} (hb : w0.heap.size ≤ br) (u0 u1 : Value) : BC w0 ((w.setCell ⟨br, 0, none⟩ u0).setCell ⟨br, 1, none⟩ u1) o o' :=
  ⟨(h.k.set (p := ⟨br, 0, none⟩) (.inl hb) _).set (p := ⟨br, 1, none⟩) (.inl hb) _, h.n⟩
end
set_option maxRecDepth 100000
set_option maxHeartbeats 4000000
theorem btake_nil {B : Nat} {w : World} {q : Nat} {ve vs vi vg : Value} {iv : List Value} {E : List En} {S : List Int} {I : List (List (Int × Int))} {G : List Bool} (h : BK B w q ve vs vi vg iv E S I G) (o : BOk E S I G) (e tk : Int) (ht : Bk.there E e false = true) (hw : Bk.waits E S I G e = false) (hk0 : 0 ≤ tk) (hM : I[(Ld.at E e).c.toNat]? = some []) :
    Calls Try.prog 31 #[.pointer (some ⟨q, 0, none⟩), .int .i64 e, .int .i64 tk] w fun r w' => r = .returned (.tuple #[.agg #[.int .i64 0, .int .i64 0], .int .i64 0]) ∧ Below w.heap.size w w' := by
  have hb0 : Below w.heap.size w (w.alloc (.cells #[.int .i64 0, .int .i64 0] 59)) := (Below.refl _ _).alloc (Nat.le_refl _) _
  have HT := hide (bthere_any (h.keep hb0).lg e false)
  have HWt := hide (fun w' (hb : Below w.heap.size w w') => bwaits_any (h.keep hb) o e)
  rw [ht] at HT
  rw [hw] at HWt
  have HB0 := hide hb0
  obtain ⟨k, x, rfl, hx, ha, -, -, hk⟩ := Bk.there_some ht
  obtain ⟨c, sl, M, g, hc, -, hI, -, hcl, hMl⟩ := o.chan hx
  rw [ha, hc, Int.toNat_natCast, hI] at hM
  obtain rfl : M = [] := by injection hM
  have d0 : decide (tk < 0) = false := decide_eq_false (by omega)
  have HH := hide h
  have HX := hide (And.intro hx (And.intro hc hI))
  have k0 : (0 : Int) ≤ (k : Int) := by omega
  have k1 : (k : Int) < (E.length : Int) := by omega
  have c0' : (0 : Int) ≤ (c : Int) := by omega
  have c1' : (c : Int) < (I.length : Int) := by rw [o.lI]; omega
  have hlE := o.le
  have hlI : I.length ≤ 100000 := by rw [o.lI]; exact o.ls
  clear h o hb0 ht hw hx ha hc hI hM hk0
  go_enter Try.func31, Try.ntmps31
  go_wp2_with fail
  refine HT.out.mono ?_
  rintro r w1 ⟨rfl, hb⟩
  have z0 := bsome hb (p := ⟨w.heap.size, 0, none⟩) (v := .int .i64 0) (by simp [go_sem])
  have z1 := bsome hb (p := ⟨w.heap.size, 1, none⟩) (v := .int .i64 0) (by simp [go_sem])
  have f0 : w1.frozen? ⟨w.heap.size, 0, none⟩ = false := (hb.frozen (p := ⟨w.heap.size, 0, none⟩) (by simp)).trans (by simp [go_sem])
  have f1 : w1.frozen? ⟨w.heap.size, 1, none⟩ = false := (hb.frozen (p := ⟨w.heap.size, 1, none⟩) (by simp)).trans (by simp [go_sem])
  have HB1 := hide (btrans HB0.out hb)
  clear hb
  go_wp2_with fail
  refine (HWt.out _ HB1.out).mono ?_
  rintro r w2 ⟨rfl, hb⟩
  have hl1 : w.heap.size < w1.heap.size := World.block_lt_of_cell? _ _ z0
  have z0 := bsome hb z0
  have z1 := bsome hb z1
  have f0 : w2.frozen? ⟨w.heap.size, 0, none⟩ = false := (hb.frozen (p := ⟨w.heap.size, 0, none⟩) hl1).trans f0
  have f1 : w2.frozen? ⟨w.heap.size, 1, none⟩ = false := (hb.frozen (p := ⟨w.heap.size, 1, none⟩) hl1).trans f1
  have HB2 := hide (btrans HB1.out hb)
  have H2 := hide (HH.out.keep HB2.out)
  obtain ⟨e1, e2, e3⟩ := HX.out
  obtain ⟨ge, ce, hve, -, g1, -⟩ := H2.out.lg.at e1
  obtain ⟨gi, ci, a, ca, hvi, -, g2, -, -⟩ := H2.out.atI e3
  subst hve hvi
  rw [e2] at g1
  have q0 := H2.out.c0
  have q2 := H2.out.c2
  clear hb hl1 e1 e2 e3
  go_wp2
  exact bodyPost_ret (v := .tuple #[.agg #[.int .i64 0, .int .i64 0], .int .i64 0]) (by simp [results, Try.results31, go_sem, z0, z1]) rfl ⟨rfl, bset (bset HB2.out (p := ⟨w.heap.size, 0, none⟩) (Nat.le_refl _) _) (p := ⟨w.heap.size, 1, none⟩) (Nat.le_refl _) _⟩
end Go.Proofs.Ytbepaimbbclejaa

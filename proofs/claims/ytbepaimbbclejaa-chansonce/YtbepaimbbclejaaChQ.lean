import Derived.Test.YtbepaimbbclejaaChM
/- The document's book: Put of an end. -/
namespace Go.Proofs.Ytbepaimbbclejaa
open Go.RowKit

set_option maxRecDepth 100000
set_option maxHeartbeats 4000000
theorem bput_bad {B : Nat} {w : World} {q : Nat} {ve vs vi vg : Value} {iv : List Value} {E : List En} {S : List Int} {I : List (List (Int × Int))} {G : List Bool} (h : BK B w q ve vs vi vg iv E S I G) (o : BOk E S I G) (e n en : Int) (ht : Bk.there E e true = true) (hw : Bk.waits E S I G e = false) (hen : 0 ≤ en) (hbad : Ld.has E en = false ∨ (Ld.at E en).h < 0 ∨ en = e) :
    Calls Try.prog 30 #[.pointer (some ⟨q, 0, none⟩), .int .i64 e, .agg #[.int .i64 n, .int .i64 en]] w fun r w' => r = .returned (.bool false) ∧ Below w.heap.size w w' := by
  have hb0 : Below w.heap.size w (w.alloc (.cells #[.int .i64 n, .int .i64 en] 59)) := (Below.refl _ _).alloc (Nat.le_refl _) _
  have HT := hide (bthere_any (h.keep hb0).lg e true)
  have HWt := hide (fun w' (hb : Below w.heap.size w w') => bwaits_any (h.keep hb) o e)
  have HB0 := hide hb0
  have HH := hide h
  rw [ht] at HT
  rw [hw] at HWt
  obtain ⟨k, x, rfl, hx, ha, -, -, hk⟩ := Bk.there_some ht
  obtain ⟨c, sl, M, g0, hc, hS, hI, hG, hcl, hMl⟩ := o.chan hx
  have k0 : (0 : Int) ≤ (k : Int) := by omega
  have k1 : (k : Int) < (E.length : Int) := by omega
  have c0' : (0 : Int) ≤ (c : Int) := by omega
  have c1' : (c : Int) < (I.length : Int) := by rw [o.lI]; omega
  have c2' : (c : Int) < (G.length : Int) := by rw [o.lG]; omega
  have hlE := o.le
  have hlI : I.length ≤ 100000 := by rw [o.lI]; exact o.ls
  have hlG : G.length ≤ 100000 := by rw [o.lG]; exact o.ls
  have hcn : (Ld.at E (k : Int)).c.toNat = c := by rw [ha, hc, Int.toNat_natCast]
  have HX := hide (And.intro hx (And.intro hc (And.intro hI hG)))
  have d0 : decide (en < 0) = false := decide_eq_false (by omega)
  have HAt := hide (fun w' (hb : Below w.heap.size w w') => rbAt_any (h.keep hb).lg en)
  obtain ⟨b1, hb1⟩ : ∃ b, Ld.has E en = b := ⟨_, rfl⟩
  obtain ⟨y, hy⟩ : ∃ y, Ld.at E en = y := ⟨_, rfl⟩
  rw [hb1, hy] at HAt hbad
  obtain ⟨b2, hb2⟩ : ∃ b, decide (y.h < 0) = b := ⟨_, rfl⟩
  obtain ⟨b3, hb3⟩ : ∃ b, (en == (k : Int)) = b := ⟨_, rfl⟩
  have HBD : Hid (b1 = false ∨ b2 = true ∨ b3 = true) := hide (hbad.imp id (fun h => h.imp (fun h => by rw [← hb2]; exact decide_eq_true h) (fun h => by rw [← hb3, h]; exact beq_self_eq_true _)))
  clear h o hb0 ht hw hx ha hc hI hG hS hcn hen hbad hb1 hy
  go_enter Try.func30, Try.ntmps30
  go_wp2_with fail
  refine HT.out.mono ?_
  rintro r w1 ⟨rfl, hb⟩
  have xb0 := bsome hb (p := ⟨w.heap.size, 0, none⟩) (v := .int .i64 n) (by simp [go_sem])
  have xb1 := bsome hb (p := ⟨w.heap.size, 1, none⟩) (v := .int .i64 en) (by simp [go_sem])
  have HB1 := hide (btrans HB0.out hb)
  clear hb
  go_wp2_with fail
  refine (HWt.out _ HB1.out).mono ?_
  rintro r w2 ⟨rfl, hb⟩
  have xb0 := bsome hb xb0
  have xb1 := bsome hb xb1
  have HB2 := hide (btrans HB1.out hb)
  clear hb
  have H2 := hide (HH.out.keep HB2.out)
  obtain ⟨p1, p2, p3, p4⟩ := HX.out
  obtain ⟨ge, ce, hve, -, g1, -⟩ := H2.out.lg.at p1
  obtain ⟨gi, ci, al, cal, hvi, hiv, g2, gf, hio⟩ := H2.out.atI p3
  obtain ⟨gg, cg, hvg, g3, -⟩ := H2.out.atG p4
  subst hve hvi hvg
  rw [p2] at g1
  have q0 := H2.out.c0
  have q2 := H2.out.c2
  have q3 := H2.out.c3
  have HI0 := hide p3
  have HIV := hide hiv
  have HIO := hide hio
  have gfc := gf c
  have HNB : Hid (∀ j : Nat, (obs q (.slice (some ⟨ge, 0, none⟩) E.length ce) vs (.slice (some ⟨gi, 0, none⟩) I.length ci) (.slice (some ⟨gg, 0, none⟩) G.length cg) iv)[j]? ≠ some (some w.heap.size)) := hide (HH.out.new (Nat.le_refl _))
  clear p1 p2 p3 p4 hiv hio gf
  clear HIV HIO HI0 g2 gfc q2 q3
  go_wp2_with fail
  refine (HAt.out _ HB2.out).mono ?_
  rintro r w3 ⟨rfl, hb⟩
  have hx2 : w.heap.size < w2.heap.size := World.block_lt_of_cell? _ _ xb1
  have xb1 := bsome hb xb1
  have hx3 : w.heap.size < w3.heap.size := World.block_lt_of_cell? _ _ xb1
  have hb4 := (btrans HB2.out hb)
  have HB4 := hide (hb4.alloc hb4.size (.cells #[.int .i64 y.c, .bool y.s, .int .i64 y.h, .int .i64 y.d] 48))
  clear hb hb4
  cases b1 with
  | false =>
    go_wp2
    go_ret
    exact ⟨rfl, HB4.out⟩
  | true =>
    cases b2 with
    | true =>
      go_wp2
      go_ret
      exact ⟨rfl, HB4.out⟩
    | false =>
      obtain rfl : b3 = true := HBD.out.elim (fun h => by cases h) (fun h => h.elim (fun h => by cases h) id)
      go_wp2
      go_ret
      exact ⟨rfl, HB4.out⟩
theorem bput_gone {B : Nat} {w : World} {q : Nat} {ve vs vi vg : Value} {iv : List Value} {E : List En} {S : List Int} {I : List (List (Int × Int))} {G : List Bool} (h : BK B w q ve vs vi vg iv E S I G) (o : BOk E S I G) (e n en : Int) (ht : Bk.there E e true = true) (hw : Bk.waits E S I G e = false) (hen : 0 ≤ en) (hok : Ld.has E en = true ∧ 0 ≤ (Ld.at E en).h ∧ en ≠ e) (hg : G[(Ld.at E e).c.toNat]? = some true) (f : Nat) (hf : Bk.tot I < f) :
    Calls Try.prog 30 #[.pointer (some ⟨q, 0, none⟩), .int .i64 e, .agg #[.int .i64 n, .int .i64 en]] w fun r w' => r = .returned (.bool true) ∧ ∃ iv', BK B w' q ve vs vi vg iv' (Bk.drop f ⟨E, I, G⟩ en).1.e S (Bk.drop f ⟨E, I, G⟩ en).1.i (Bk.drop f ⟨E, I, G⟩ en).1.g ∧ BC w w' (obs q ve vs vi vg iv) (obs q ve vs vi vg iv') := by
  have hb0 : Below w.heap.size w (w.alloc (.cells #[.int .i64 n, .int .i64 en] 59)) := (Below.refl _ _).alloc (Nat.le_refl _) _
  have HT := hide (bthere_any (h.keep hb0).lg e true)
  have HWt := hide (fun w' (hb : Below w.heap.size w w') => bwaits_any (h.keep hb) o e)
  have HB0 := hide hb0
  have HH := hide h
  rw [ht] at HT
  rw [hw] at HWt
  obtain ⟨k, x, rfl, hx, ha, -, -, hk⟩ := Bk.there_some ht
  obtain ⟨c, sl, M, g0, hc, hS, hI, hG, hcl, hMl⟩ := o.chan hx
  have k0 : (0 : Int) ≤ (k : Int) := by omega
  have k1 : (k : Int) < (E.length : Int) := by omega
  have c0' : (0 : Int) ≤ (c : Int) := by omega
  have c1' : (c : Int) < (I.length : Int) := by rw [o.lI]; omega
  have c2' : (c : Int) < (G.length : Int) := by rw [o.lG]; omega
  have hlE := o.le
  have hlI : I.length ≤ 100000 := by rw [o.lI]; exact o.ls
  have hlG : G.length ≤ 100000 := by rw [o.lG]; exact o.ls
  have hcn : (Ld.at E (k : Int)).c.toNat = c := by rw [ha, hc, Int.toNat_natCast]
  have HX := hide (And.intro hx (And.intro hc (And.intro hI hG)))
  have d0 : decide (en < 0) = false := decide_eq_false (by omega)
  rw [hcn, hG] at hg
  obtain rfl : g0 = true := by injection hg
  have HAt := hide (fun w' (hb : Below w.heap.size w w') => rbAt_any (h.keep hb).lg en)
  have HDR := hide (fun w' (hb : Below w.heap.size w w') => bdrop_any B q f w' ve vs vi vg iv S ⟨E, I, G⟩ en (h.keep hb) o hf)
  obtain ⟨y, hy⟩ : ∃ y, Ld.at E en = y := ⟨_, rfl⟩
  rw [hok.1, hy] at HAt
  rw [hy] at hok
  have d1 : decide (y.h < 0) = false := decide_eq_false (by omega)
  have d2 : (en == (k : Int)) = false := beq_eq_false_iff_ne.2 hok.2.2
  clear h o hb0 ht hw hx ha hc hI hG hS hcn hen hok hy hg hf
  go_enter Try.func30, Try.ntmps30
  go_wp2_with fail
  refine HT.out.mono ?_
  rintro r w1 ⟨rfl, hb⟩
  have xb0 := bsome hb (p := ⟨w.heap.size, 0, none⟩) (v := .int .i64 n) (by simp [go_sem])
  have xb1 := bsome hb (p := ⟨w.heap.size, 1, none⟩) (v := .int .i64 en) (by simp [go_sem])
  have HB1 := hide (btrans HB0.out hb)
  clear hb
  go_wp2_with fail
  refine (HWt.out _ HB1.out).mono ?_
  rintro r w2 ⟨rfl, hb⟩
  have xb0 := bsome hb xb0
  have xb1 := bsome hb xb1
  have HB2 := hide (btrans HB1.out hb)
  clear hb
  have H2 := hide (HH.out.keep HB2.out)
  obtain ⟨p1, p2, p3, p4⟩ := HX.out
  obtain ⟨ge, ce, hve, -, g1, -⟩ := H2.out.lg.at p1
  obtain ⟨gi, ci, al, cal, hvi, hiv, g2, gf, hio⟩ := H2.out.atI p3
  obtain ⟨gg, cg, hvg, g3, -⟩ := H2.out.atG p4
  subst hve hvi hvg
  rw [p2] at g1
  have q0 := H2.out.c0
  have q2 := H2.out.c2
  have q3 := H2.out.c3
  have HI0 := hide p3
  have HIV := hide hiv
  have HIO := hide hio
  have gfc := gf c
  have HNB : Hid (∀ j : Nat, (obs q (.slice (some ⟨ge, 0, none⟩) E.length ce) vs (.slice (some ⟨gi, 0, none⟩) I.length ci) (.slice (some ⟨gg, 0, none⟩) G.length cg) iv)[j]? ≠ some (some w.heap.size)) := hide (HH.out.new (Nat.le_refl _))
  clear p1 p2 p3 p4 hiv hio gf
  clear HIV HIO HI0 g2 gfc q2
  go_wp2_with fail
  refine (HAt.out _ HB2.out).mono ?_
  rintro r w3 ⟨rfl, hb⟩
  have xb1 := bsome hb xb1
  have hx3 : w.heap.size < w3.heap.size := World.block_lt_of_cell? _ _ xb1
  have g3 := bsome hb g3
  have q3 := bsome hb q3
  have hg3 : gg < w3.heap.size := World.block_lt_of_cell? _ _ g3
  have hq3 : q < w3.heap.size := World.block_lt_of_cell? _ _ q3
  have hb4 := (btrans HB2.out hb)
  have HB4 := hide (hb4.alloc hb4.size (.cells #[.int .i64 y.c, .bool y.s, .int .i64 y.h, .int .i64 y.d] 48))
  clear hb hb4
  go_wp2_with fail
  refine (HDR.out _ HB4.out).mono ?_
  rintro r w5 ⟨rfl, iv5, hk5, hc5⟩
  have HK5 := hide hk5
  have HC5 := hide ((BC.of_below HB4.out _).trans hc5)
  clear hk5 hc5
  go_wp2
  go_ret
  exact ⟨rfl, iv5, HK5.out, HC5.out⟩
end Go.Proofs.Ytbepaimbbclejaa

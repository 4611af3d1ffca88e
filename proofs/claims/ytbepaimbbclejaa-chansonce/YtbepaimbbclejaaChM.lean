import Derived.Test.YtbepaimbbclejaaChL
import Derived.Test.YtbepaimbbclejaaChG
/- The document's book: Put. -/
namespace Go.Proofs.Ytbepaimbbclejaa
open Go.RowKit

set_option maxRecDepth 100000
set_option maxHeartbeats 4000000
theorem bput_no {B : Nat} {w : World} {q : Nat} {ve vs vi vg : Value} {iv : List Value} {E : List En} {S : List Int} {I : List (List (Int × Int))} {G : List Bool} (h : BK B w q ve vs vi vg iv E S I G) (o : BOk E S I G) (e n en : Int) (hn : Bk.there E e true = false ∨ Bk.waits E S I G e = true) :
    Calls Try.prog 30 #[.pointer (some ⟨q, 0, none⟩), .int .i64 e, .agg #[.int .i64 n, .int .i64 en]] w fun r w' => r = .returned (.bool false) ∧ Below w.heap.size w w' := by
  have hb0 : Below w.heap.size w (w.alloc (.cells #[.int .i64 n, .int .i64 en] 59)) := (Below.refl _ _).alloc (Nat.le_refl _) _
  have HT := hide (bthere_any (h.keep hb0).lg e true)
  have HWt := hide (fun w' (hb : Below w.heap.size w w') => bwaits_any (h.keep hb) o e)
  have HB0 := hide hb0
  have HH := hide h
  cases h1 : Bk.there E e true with
  | false =>
    rw [h1] at HT
    clear h o hn HWt hb0
    go_enter Try.func30, Try.ntmps30
    go_wp2_with fail
    refine HT.out.mono ?_
    rintro r w1 ⟨rfl, hb⟩
    have xb0 := bsome hb (p := ⟨w.heap.size, 0, none⟩) (v := .int .i64 n) (by simp [go_sem])
    have xb1 := bsome hb (p := ⟨w.heap.size, 1, none⟩) (v := .int .i64 en) (by simp [go_sem])
    have HB1 := hide (btrans HB0.out hb)
    clear hb
    go_wp2
    go_ret
    exact ⟨rfl, HB1.out⟩
  | true =>
    rw [h1] at HT hn
    have hn : Bk.waits E S I G e = true := hn.elim (fun h => by cases h) id
    rw [hn] at HWt
    clear h o hn hb0
    go_enter Try.func30, Try.ntmps30
    go_wp2_with fail
    refine HT.out.mono ?_
    rintro r w1 ⟨rfl, hb⟩
    have xb0 := bsome hb (p := ⟨w.heap.size, 0, none⟩) (v := .int .i64 n) (by simp [go_sem])
    have xb1 := bsome hb (p := ⟨w.heap.size, 1, none⟩) (v := .int .i64 en) (by simp [go_sem])
    have HB1 := hide (btrans HB0.out hb)
    clear hb
    go_wp2_with fail
    refine (HWt.out _ HB1.out).mono ?_
    rintro r w2 ⟨rfl, hb⟩
    have xb0 := bsome hb xb0
    have xb1 := bsome hb xb1
    have HB2 := hide (btrans HB1.out hb)
    clear hb
    go_wp2
    go_ret
    exact ⟨rfl, HB2.out⟩
theorem bput_gn {B : Nat} {w : World} {q : Nat} {ve vs vi vg : Value} {iv : List Value} {E : List En} {S : List Int} {I : List (List (Int × Int))} {G : List Bool} (h : BK B w q ve vs vi vg iv E S I G) (o : BOk E S I G) (e n en : Int) (ht : Bk.there E e true = true) (hw : Bk.waits E S I G e = false) (hen : en < 0) (hg : G[(Ld.at E e).c.toNat]? = some true) :
    Calls Try.prog 30 #[.pointer (some ⟨q, 0, none⟩), .int .i64 e, .agg #[.int .i64 n, .int .i64 en]] w fun r w' => r = .returned (.bool true) ∧ Below w.heap.size w w' := by
  have hb0 : Below w.heap.size w (w.alloc (.cells #[.int .i64 n, .int .i64 en] 59)) := (Below.refl _ _).alloc (Nat.le_refl _) _
  have HT := hide (bthere_any (h.keep hb0).lg e true)
  have HWt := hide (fun w' (hb : Below w.heap.size w w') => bwaits_any (h.keep hb) o e)
  have HB0 := hide hb0
  have HH := hide h
  rw [ht] at HT
  rw [hw] at HWt
  obtain ⟨k, x, rfl, hx, ha, -, -, hk⟩ := Bk.there_some ht
  obtain ⟨c, sl, M, g0, hc, hS, hI, hG, hcl, hMl⟩ := o.chan hx
  have k0 : (0 : Int) ≤ (k : Int) := by omega
  have k1 : (k : Int) < (E.length : Int) := by omega
  have c0' : (0 : Int) ≤ (c : Int) := by omega
  have c1' : (c : Int) < (I.length : Int) := by rw [o.lI]; omega
  have c2' : (c : Int) < (G.length : Int) := by rw [o.lG]; omega
  have hlE := o.le
  have hlI : I.length ≤ 100000 := by rw [o.lI]; exact o.ls
  have hlG : G.length ≤ 100000 := by rw [o.lG]; exact o.ls
  have hcn : (Ld.at E (k : Int)).c.toNat = c := by rw [ha, hc, Int.toNat_natCast]
  have HX := hide (And.intro hx (And.intro hc (And.intro hI hG)))
  rw [hcn, hG] at hg
  obtain rfl : g0 = true := by injection hg
  have d0 : decide (en < 0) = true := decide_eq_true hen
  clear h o hb0 ht hw hx ha hc hI hG hS hg hcn hen
  go_enter Try.func30, Try.ntmps30
  go_wp2_with fail
  refine HT.out.mono ?_
  rintro r w1 ⟨rfl, hb⟩
  have xb0 := bsome hb (p := ⟨w.heap.size, 0, none⟩) (v := .int .i64 n) (by simp [go_sem])
  have xb1 := bsome hb (p := ⟨w.heap.size, 1, none⟩) (v := .int .i64 en) (by simp [go_sem])
  have HB1 := hide (btrans HB0.out hb)
  clear hb
  go_wp2_with fail
  refine (HWt.out _ HB1.out).mono ?_
  rintro r w2 ⟨rfl, hb⟩
  have xb0 := bsome hb xb0
  have xb1 := bsome hb xb1
  have HB2 := hide (btrans HB1.out hb)
  clear hb
  have H2 := hide (HH.out.keep HB2.out)
  obtain ⟨p1, p2, p3, p4⟩ := HX.out
  obtain ⟨ge, ce, hve, -, g1, -⟩ := H2.out.lg.at p1
  obtain ⟨gi, ci, al, cal, hvi, hiv, g2, gf, hio⟩ := H2.out.atI p3
  obtain ⟨gg, cg, hvg, g3, -⟩ := H2.out.atG p4
  subst hve hvi hvg
  rw [p2] at g1
  have q0 := H2.out.c0
  have q2 := H2.out.c2
  have q3 := H2.out.c3
  have HI0 := hide p3
  have HIV := hide hiv
  have HIO := hide hio
  have gfc := gf c
  have HNB : Hid (∀ j : Nat, (obs q (.slice (some ⟨ge, 0, none⟩) E.length ce) vs (.slice (some ⟨gi, 0, none⟩) I.length ci) (.slice (some ⟨gg, 0, none⟩) G.length cg) iv)[j]? ≠ some (some w.heap.size)) := hide (HH.out.new (Nat.le_refl _))
  clear p1 p2 p3 p4 hiv hio gf
  go_wp2
  go_ret
  exact ⟨rfl, HB2.out⟩
end Go.Proofs.Ytbepaimbbclejaa

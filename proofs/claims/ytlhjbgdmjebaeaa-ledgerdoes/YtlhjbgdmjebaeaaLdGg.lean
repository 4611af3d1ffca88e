import Derived.Test.YtlhjbgdmjebaeaaLdG
/- The law LedgerDoes: a round. -/
namespace Go.Proofs.Ytlhjbgdmjebaeaa
open Go.RowKit

set_option maxRecDepth 100000 in
set_option maxHeartbeats 4000000 in
theorem l_roundg (w1 wr : World) (u : Nat → Value) (gP oP n cv p q : Nat) (L : List En) (va vb : Value) (i : Nat) (P0 : List PanicEntry → Act → World → Prop) (Q1 : Exit → Act → World → Prop) (hlt : i < n) (hn : n ≤ 200) (hu : u 5 = .int .i64 i) (x : Stp)
    (X0 : Hid (w1.cell? ⟨gP, oP + i * 5, none⟩ = some (.int .i64 x.d))) (X1 : Hid (w1.cell? ⟨gP, oP + i * 5 + 1, none⟩ = some (.int .i64 x.e))) (X2 : Hid (w1.cell? ⟨gP, oP + i * 5 + 2, none⟩ = some (.int .i64 x.h))) (X3 : Hid (w1.cell? ⟨gP, oP + i * 5 + 3, none⟩ = some (.int .i64 x.n))) (X4 : Hid (w1.cell? ⟨gP, oP + i * 5 + 4, none⟩ = some (.bool x.s)))
    (HL : Hid (L2 w1 wr p q va vb L L)) (HF : Hid (Fw L i)) (k : Nat) (hk : wrap64 ((IntKind.u64.wrap x.d).tmod 8) = (k : Int)) (hk3 : k = 5) :
    Code.wp Try.prog lbody (Exit.then (fun a' w'' => LI w1 (some ⟨gP, oP, none⟩) n cv p q a' w'' ∧ Lmu n a' w'' < Lmu n (lframe (some ⟨gP, oP, none⟩) n cv p q u) wr) (qmix P0 Q1)) (lframe (some ⟨gP, oP, none⟩) n cv p q u) wr := by
  have x0 := bsome HL.out.bl X0.out
  have x1 := bsome HL.out.bl X1.out
  have x2 := bsome HL.out.bl X2.out
  have x3 := bsome HL.out.bl X3.out
  have x4 := bsome HL.out.bl X4.out
  have d1 : decide ((i : Int) < (n : Int)) = true := by simp; omega
  have i0 : (0 : Int) ≤ (i : Int) := by omega
  have i1 : (i : Int) < (n : Int) := by omega
  have CA := hide (fun w2 (hb : Below wr.heap.size wr w2) => rbAt_any (HL.out.keep hb).b x.e)
  have CE := hide (fun w2 (hb : Below wr.heap.size wr w2) => end_any (HL.out.keep hb).g x.e)
  have HY := hide (En.neq_same (Ld.at L x.e))
  generalize hy : Ld.at L x.e = y at CA CE HY
  generalize hh : Ld.has L x.e = hs at CA CE
  have HYE := hide (And.intro hy hh)
  clear hy hh
  conv => arg 2; whnf
  unfold lframe
  go_wp2_with fail
  refine (CA.out _ ((Below.refl _ _).alloc (Nat.le_refl _) _)).mono ?_
  rintro e w2 ⟨rfl, hb2⟩
  have HB2 : Hid (Below wr.heap.size wr w2) := hide (((Below.refl _ _).alloc (Nat.le_refl _) _).trans (hb2.mono (by simp)))
  have y0 := bsome hb2 (p := ⟨wr.heap.size, 0, none⟩) (v := .int .i64 x.d) (by simp [go_sem])
  have y1 := bsome hb2 (p := ⟨wr.heap.size, 1, none⟩) (v := .int .i64 x.e) (by simp [go_sem])
  have y2 := bsome hb2 (p := ⟨wr.heap.size, 2, none⟩) (v := .int .i64 x.h) (by simp [go_sem])
  have y3 := bsome hb2 (p := ⟨wr.heap.size, 3, none⟩) (v := .int .i64 x.n) (by simp [go_sem])
  have y4 := bsome hb2 (p := ⟨wr.heap.size, 4, none⟩) (v := .bool x.s) (by simp [go_sem])
  clear hb2 CA x0 x1 x2 x3 x4
  have hsz2 := HB2.out.size
  have hbx : wr.heap.size < w2.heap.size := World.block_lt_of_cell? _ _ y0
  have hbn : ¬ wr.heap.size = w2.heap.size := by omega
  go_wp2_with fail
  refine (CE.out _ (HB2.out.alloc HB2.out.size _)).mono ?_
  rintro e w3 ⟨rfl, hb3⟩
  have HB3 : Hid (Below wr.heap.size wr w3) := hide ((HB2.out.alloc HB2.out.size _).trans (hb3.mono (by simp; omega)))
  have hb3' : Below w2.heap.size w2 w3 := ((Below.refl _ _).alloc (Nat.le_refl _) _).trans (hb3.mono (by simp))
  have z0 := bsome hb3 (p := ⟨w2.heap.size, 0, none⟩) (v := .int .i64 y.c) (by simp [go_sem])
  have z1 := bsome hb3 (p := ⟨w2.heap.size, 1, none⟩) (v := .bool y.s) (by simp [go_sem])
  have z2 := bsome hb3 (p := ⟨w2.heap.size, 2, none⟩) (v := .int .i64 y.h) (by simp [go_sem])
  have z3 := bsome hb3 (p := ⟨w2.heap.size, 3, none⟩) (v := .int .i64 y.d) (by simp [go_sem])
  have y0 := bsome hb3' y0
  have y1 := bsome hb3' y1
  have y2 := bsome hb3' y2
  have y3 := bsome hb3' y3
  have y4 := bsome hb3' y4
  have hsz3 := hb3'.size
  have hbw : w2.heap.size < w3.heap.size := World.block_lt_of_cell? _ _ z0
  have hbm : ¬ w2.heap.size = w3.heap.size := by omega
  have hbv : wr.heap.size < w3.heap.size := by omega
  clear hb3 hb3' CE
  have hey := fun W => HY.out W
  have dh : (hs != hs) = false := by cases hs <;> rfl
  go_upto_block 2 with fail
  go_cut [] from 23 to 214 (fun wx => ∃ (L' : List En) (va' vb' : Value), Hid (L2 w1 wx p q va' vb' L' L') ∧ Hid (Fw L' (i + 1)))
  case first =>
    have hbW : Below w3.heap.size w3 (w3.alloc (.cells #[.int .i64 y.c, .bool y.s, .int .i64 y.h, .int .i64 y.d] 36)) := (Below.refl _ _).alloc (Nat.le_refl _) _
    have HW := hide (HL.out.keep (HB3.out.trans (hbW.mono HB3.out.size)))
    have y0 := bsome hbW y0
    have y1 := bsome hbW y1
    have y2 := bsome hbW y2
    have y3 := bsome hbW y3
    have y4 := bsome hbW y4
    have z2 := bsome hbW z2
    have hll : L.length ≤ 200 := Nat.le_trans HF.out.1 (by omega)
    clear hbW
    generalize w3.alloc (.cells #[.int .i64 y.c, .bool y.s, .int .i64 y.h, .int .i64 y.d] 36) = W at *
    have HLg := HL
    clear z0 z1 z3 hey dh HL HY
    have HNX : Hid (∀ b, wr.heap.size ≤ b → b ≠ p ∧ some b ≠ va.ownBlock) := hide (fun b hb => ⟨fun e => by have := HLg.out.g.plt; omega, fun e => by have := (HLg.out.g.o.lt b e.symm).2; omega⟩)
    have HNY : Hid (∀ b, wr.heap.size ≤ b → b ≠ q ∧ some b ≠ vb.ownBlock) := hide (fun b hb => ⟨fun e => by have := HLg.out.b.plt; omega, fun e => by have := (HLg.out.b.o.lt b e.symm).2; omega⟩)
    have hWx : wr.heap.size < W.heap.size := World.block_lt_of_cell? _ _ y0
    have hWz : w2.heap.size < W.heap.size := World.block_lt_of_cell? _ _ z2
    clear HLg
    subst hk3
    have CB := hide (gone_any HW.out.g x.e (HF.out.bd (by omega)))
    obtain ⟨hye, hhe⟩ := HYE.out
    rw [hye, hhe] at CB
    have hxb : wr.heap.size ≠ p ∧ some wr.heap.size ≠ va.ownBlock := HNX.out _ (Nat.le_refl _)
    have hzb : w2.heap.size ≠ p ∧ some w2.heap.size ≠ va.ownBlock := HNX.out _ hsz2
    have hxq : wr.heap.size ≠ q := (HNY.out _ (Nat.le_refl _)).1
    have HXB := hide hxb
    have HZB := hide hzb
    clear hxb hzb
    rcases Ld.cs L x.e with ⟨e', xe, he, hxe, hel, h1, h2⟩ | ⟨h1, h2, -⟩
    · obtain rfl : hs = true := by rw [← hhe, h1]
      obtain rfl : xe = y := by rw [← h2, hye]
      have hgo : Ld.gone L (e' : Int) = L.set e' { xe with h := -2, d := xe.d + 1 } := by unfold Ld.gone; rw [← he, h1, if_pos rfl, h2, he]; rfl
      have HGO := hide hgo
      have HXE := hide hxe
      have HHE := hide he
      clear hgo hxe h1 h2 hye hhe
      rw [he] at y1 CB
      obtain ⟨dbv, hdb⟩ : ∃ b, (xe.h == -2) = b := ⟨_, rfl⟩
      have hdn : (xe.h != -2) = !dbv := by rw [← hdb]; rfl
      rw [hdb] at CB
      have dn : ((!dbv) != (!dbv)) = false := by cases dbv <;> rfl
      have HDB := hide hdb
      clear hdb he
      go_wp2_with fail
      refine CB.out.mono ?_
      rintro e w5 ⟨rfl, hg5, hc5⟩
      have HW5 := hide (HW.out.setg hg5 hc5)
      have y1 := hc5.k.cell y1 HXB.out
      have z2 := hc5.k.cell z2 HZB.out
      obtain ⟨gb, cb, hvb, hgq, c1, c2, c3, c4, cf⟩ := HW5.out.b.at HXE.out
      subst hvb
      have qc := HW5.out.b.c
      have cf2 := cf (e' * 4 + 2)
      have cf3 := cf (e' * 4 + 3)
      have hgx : ¬ wr.heap.size = gb := fun e => (HNY.out _ (Nat.le_refl _)).2 (by rw [e]; rfl)
      have e0 : (0 : Int) ≤ (e' : Int) := by omega
      have e1 : (e' : Int) < (L.length : Int) := by omega
      have hdd : 0 ≤ xe.d ∧ xe.d ≤ 200 := by have := HF.out.2 xe (List.mem_of_getElem? HXE.out); omega
      obtain ⟨hd0, hd1⟩ := hdd
      clear hg5 hc5 CB cf c1 c2
      go_wp2
      go_region
      go_wp2
      go_region
      go_wp2
      go_meet
      case rel =>
        have HF1 := HW5.out.b.seth HXE.out (-2)
        have HF2 := LG.setd (k := e') (x := { xe with h := -2 }) (L := L.set e' { xe with h := -2 }) (by rw [List.length_set]; exact HF1) (List.getElem?_set_self hel) (xe.d + 1)
        rw [List.set_set, List.length_set, ← HGO.out] at HF2
        have HF3 := HW5.out.setb HF2 ⟨((Kx.refl _ _).set (p := ⟨gb, e' * 4 + 2, none⟩) (.inr (fun e => e.2 rfl)) _).set (p := ⟨gb, e' * 4 + 3, none⟩) (.inr (fun e => e.2 rfl)) _, .inl rfl⟩
        exact ⟨_, _, _, hide (HF3.keep (below_drewN (Below.refl _ _) 2)), hide (by have := HF.out.gone x.e; rw [HHE.out] at this; exact this)⟩
    · obtain rfl : hs = false := by rw [← hhe, h1]
      have hgo : Ld.gone L x.e = L := by unfold Ld.gone; rw [h1]; rfl
      rw [hgo] at CB
      clear hgo h1 h2 hye hhe
      go_wp2_with fail
      refine CB.out.mono ?_
      rintro e w5 ⟨rfl, hg5, hc5⟩
      have HW5 := hide (HW.out.setg hg5 hc5)
      have z2 := hc5.k.cell z2 HZB.out
      clear hg5 hc5 CB
      go_wp2
      go_meet
      case rel => exact ⟨_, _, _, HW5, hide HF.out.up⟩
  case rest =>
    clear hk3 hk
    clear HL HYE HY hey dh z0 z1 z2 z3 y0 y1 y2 y3 y4 HB3 HB2 hbm hbv hbw hbn hbx hsz2 hsz3 HF
    obtain ⟨L', va', vb', HL, HF⟩ := hcut
    have hll : L'.length ≤ 201 := Nat.le_trans HF.out.1 (by omega)
    have CA := hide (all_any HL.out.g (by omega))
    obtain ⟨ab, cb, hvb⟩ := HL.out.b.form
    go_wp2_with fail
    refine CA.out.mono ?_
    rintro e w5 ⟨u5, rfl, ho, hb⟩
    obtain ⟨au, cu, hu5⟩ := own_slicei ho
    have HL5 := hide (HL.out.keep hb)
    have CS := hide (sameEnds_any L' u5 vb' w5 (by omega) (own_enr ho) (own_enr HL5.out.b.o))
    have qc := HL5.out.b.c
    have HO := hide ho
    have HB := hide hb
    rw [hvb] at qc CS
    rw [hu5] at HO CS ⊢
    clear ho hb CA hu5
    go_wp2_with fail
    refine CS.out.mono ?_
    rintro e w6 ⟨rfl, hb6⟩
    have HO6 := hide (own_keepe HO.out (fun g hg => hb6.block g (HO.out.lt g hg).2))
    have HB6 := hide (btrans HB.out hb6)
    clear hb6 HO HB CS qc HL5
    go_wp2
    go_loopg [14] L'.length (fun gh jv wx => ∃ (j : Nat) (M' : List En), gh = L'.length - j ∧ j ≤ L'.length ∧ jv = .int .i64 j ∧ Hid (M'.length = L'.length) ∧ Hid (wx.ownsRow wc.heap.size 36 4 (.slice au L'.length cu) L'.length (ecl M')) ∧ Hid (Below wc.heap.size wc wx))
    case atStart => exact ⟨0, L', rfl, Nat.zero_le _, rfl, hide rfl, HO6, HB6⟩
    case round =>
      obtain ⟨j, M', rfl, hj, rfl, HM, HO, HB⟩ := hrel
      by_cases hjl : j < L'.length
      · have dj : decide ((j : Int) < (L'.length : Int)) = true := decide_eq_true (by omega)
        obtain ⟨xm, hxm⟩ : ∃ xm, M'[j]? = some xm := ⟨_, List.getElem?_eq_getElem (by rw [HM.out]; exact hjl)⟩
        obtain ⟨g, cg, hv, hgb, -⟩ := HO.out.form (by omega)
        obtain ⟨rfl, rfl⟩ : au = some ⟨g, 0, none⟩ ∧ cu = cg := by simpa using hv
        have hc3 : wr.cell? ⟨g, j * 4 + 3, none⟩ = some (.int .i64 xm.d) := by rw [HO.out.cellAt _ (by omega)]; exact (ecl_at M' j xm hxm).2.2.2
        have hf3 := HO.out.frozenAt (j * 4 + 3)
        have j0 : (0 : Int) ≤ (j : Int) := by omega
        have j1 : (j : Int) < (L'.length : Int) := by omega
        have HO2 : Hid ((wr.setCell ⟨g, j * 4 + 3, none⟩ (.int .i64 99)).ownsRow wc.heap.size 36 4 (.slice (some ⟨g, 0, none⟩) L'.length cu) L'.length (ecl (M'.set j { xm with d := 99 }))) := hide (by rw [← ecl_setd M' j xm 99 hxm]; exact (HO.out.stored (j * 4 + 3) (.int .i64 99)).1)
        have HB2 : Hid (Below wc.heap.size wc (wr.setCell ⟨g, j * 4 + 3, none⟩ (.int .i64 99))) := hide (bset HB.out (p := ⟨g, j * 4 + 3, none⟩) hgb _)
        clear hv hxm HO6 HB6
        go_wp2
        go_roundg (L'.length - (j + 1))
        case measure => omega
        case rel => exact ⟨j + 1, M'.set j { xm with d := 99 }, rfl, by omega, by go_num, hide (by rw [List.length_set]; exact HM.out), HO2, HB2⟩
      · obtain rfl : j = L'.length := by omega
        have dj : decide ((L'.length : Int) < (L'.length : Int)) = false := by simp
        have HLE := hide (HL.out.keep HB.out)
        clear HO6 HB6 HL
        go_wp2
        refine ⟨li_mk _ _ rfl ⟨i + 1, L', va', vb', by omega, by show _ = _; go_num, HLE, HF⟩, ?_⟩
        simp [Lmu, intOf, hu]
        omega
end Go.Proofs.Ytlhjbgdmjebaeaa

import Derived.Test.YtbepaimbbclejaaChK
/- The document's book: Take of an item, done. -/
namespace Go.Proofs.Ytbepaimbbclejaa
open Go.RowKit

set_option maxRecDepth 100000
set_option maxHeartbeats 4000000
theorem btake_some {B : Nat} {w : World} {q : Nat} {ve vs vi vg : Value} {iv : List Value} {E : List En} {S : List Int} {I : List (List (Int × Int))} {G : List Bool} (h : BK B w q ve vs vi vg iv E S I G) (o : BOk E S I G) (e tk : Int) (ht : Bk.there E e false = true) (hw : Bk.waits E S I G e = false) (hk0 : 0 ≤ tk) (n1 n2 : Int) (M : List (Int × Int)) (hM : I[(Ld.at E e).c.toNat]? = some ((n1, n2) :: M)) :
    Calls Try.prog 31 #[.pointer (some ⟨q, 0, none⟩), .int .i64 e, .int .i64 tk] w fun r w' => r = .returned (.tuple #[.agg #[.int .i64 n1, .int .i64 n2], .int .i64 1]) ∧ ∃ iv', BK B w' q ve vs vi vg iv' (Bk.given E n2 tk) S (I.set (Ld.at E e).c.toNat M) G ∧ BC w w' (obs q ve vs vi vg iv) (obs q ve vs vi vg iv') := by
  have hb0 : Below w.heap.size w (w.alloc (.cells #[.int .i64 0, .int .i64 0] 59)) := (Below.refl _ _).alloc (Nat.le_refl _) _
  have HT := hide (bthere_any (h.keep hb0).lg e false)
  have HWt := hide (fun w' (hb : Below w.heap.size w w') => bwaits_any (h.keep hb) o e)
  rw [ht] at HT
  rw [hw] at HWt
  have HB0 := hide hb0
  obtain ⟨k, x, rfl, hx, ha, -, -, hk⟩ := Bk.there_some ht
  obtain ⟨c, sl, M', g, hc, -, hI, -, hcl, hMl⟩ := o.chan hx
  rw [ha, hc, Int.toNat_natCast] at hM ⊢
  obtain rfl : (n1, n2) :: M = M' := by rw [hM] at hI; injection hI
  have hie : n2 < (E.length : Int) := o.ie _ (List.mem_of_getElem? hI) (n1, n2) (List.mem_cons_self ..)
  have d0 : decide (tk < 0) = false := decide_eq_false (by omega)
  have HH := hide h
  have HX := hide (And.intro hx (And.intro hc hI))
  have k0 : (0 : Int) ≤ (k : Int) := by omega
  have k1 : (k : Int) < (E.length : Int) := by omega
  have c0' : (0 : Int) ≤ (c : Int) := by omega
  have c1' : (c : Int) < (I.length : Int) := by rw [o.lI]; omega
  have hlE := o.le
  have hlI : I.length ≤ 100000 := by rw [o.lI]; exact o.ls
  have hMl' : M.length ≤ 100000 := by simp only [List.length_cons] at hMl; omega
  clear h o hb0 ht hw hx ha hc hI hM hk0 hMl
  go_enter Try.func31, Try.ntmps31
  go_wp2_with fail
  refine HT.out.mono ?_
  rintro r w1 ⟨rfl, hb⟩
  have z0 := bsome hb (p := ⟨w.heap.size, 0, none⟩) (v := .int .i64 0) (by simp [go_sem])
  have z1 := bsome hb (p := ⟨w.heap.size, 1, none⟩) (v := .int .i64 0) (by simp [go_sem])
  have f0 : w1.frozen? ⟨w.heap.size, 0, none⟩ = false := (hb.frozen (p := ⟨w.heap.size, 0, none⟩) (by simp)).trans (by simp [go_sem])
  have f1 : w1.frozen? ⟨w.heap.size, 1, none⟩ = false := (hb.frozen (p := ⟨w.heap.size, 1, none⟩) (by simp)).trans (by simp [go_sem])
  have HB1 := hide (btrans HB0.out hb)
  clear hb
  go_wp2_with fail
  refine (HWt.out _ HB1.out).mono ?_
  rintro r w2 ⟨rfl, hb⟩
  have hl1 : w.heap.size < w1.heap.size := World.block_lt_of_cell? _ _ z0
  have z0 := bsome hb z0
  have z1 := bsome hb z1
  have f0 : w2.frozen? ⟨w.heap.size, 0, none⟩ = false := (hb.frozen (p := ⟨w.heap.size, 0, none⟩) hl1).trans f0
  have f1 : w2.frozen? ⟨w.heap.size, 1, none⟩ = false := (hb.frozen (p := ⟨w.heap.size, 1, none⟩) hl1).trans f1
  have HB2 := hide (btrans HB1.out hb)
  have H2 := hide (HH.out.keep HB2.out)
  obtain ⟨e1, e2, e3⟩ := HX.out
  obtain ⟨ge, ce, hve, -, g1, -⟩ := H2.out.lg.at e1
  obtain ⟨gi, ci, a, ca, hvi, hiv, g2, gf, hio⟩ := H2.out.atI e3
  subst hve hvi
  rw [e2] at g1
  have q0 := H2.out.c0
  have q2 := H2.out.c2
  have HNB : Hid (∀ j : Nat, (obs q (.slice (some ⟨ge, 0, none⟩) E.length ce) vs (.slice (some ⟨gi, 0, none⟩) I.length ci) vg iv)[j]? ≠ some (some w.heap.size)) := hide (HH.out.new (Nat.le_refl _))
  have HI0 := hide e3
  have HIV := hide hiv
  have hl2 : w.heap.size < w2.heap.size := World.block_lt_of_cell? _ _ z0
  clear hb hl1 e1 e2 e3 hiv
  simp only [List.length_cons] at g2
  have hio2 := hio
  rcases hio2 with ⟨hh, -⟩ | ⟨gl, ol, cap, cur, hv, hBl, h1, h2, h3, h4, h5⟩
  · cases hh
  simp only [Value.slice.injEq] at hv
  obtain ⟨rfl, -, rfl⟩ := hv
  simp only [List.length_cons] at h3 hio
  have y0 : w2.cell? ⟨gl, ol, none⟩ = some (.int .i64 n1) := by rw [cell_of_row w2 gl ol cur 59 (0, 0) h1]; simpa using h5 0 _ rfl
  have y1 : w2.cell? ⟨gl, ol + 1, none⟩ = some (.int .i64 n2) := by rw [cell_of_row w2 gl (ol + 1) cur 59 (0, 0) h1]; simpa using h5 1 _ rfl
  have HIO := hide hio
  have gfc := gf c
  have hgi : gi < w2.heap.size := World.block_lt_of_cell? _ _ g2
  clear h1 h2 h5 hio gf
  have m0 : decide ((0 : Int) < ((M.length + 1 : Nat) : Int)) = true := decide_eq_true (by omega)
  have m1 : (((M.length + 1 : Nat) : Int) == 0) = false := beq_eq_false_iff_ne.2 (by omega)
  go_upto_region 7 with fail
  have hb3 : Below w2.heap.size w2 (w2.alloc (.cells #[.int .i64 n1, .int .i64 n2] 59)) := (Below.refl _ _).alloc (Nat.le_refl _) _
  have x0 : (w2.alloc (.cells #[.int .i64 n1, .int .i64 n2] 59)).cell? ⟨w2.heap.size, 0, none⟩ = some (.int .i64 n1) := by simp [go_sem]
  have x1 : (w2.alloc (.cells #[.int .i64 n1, .int .i64 n2] 59)).cell? ⟨w2.heap.size, 1, none⟩ = some (.int .i64 n2) := by simp [go_sem]
  have HB3 := hide (btrans HB2.out hb3)
  have z0 := bsome hb3 z0
  have z1 := bsome hb3 z1
  have f0 := (hb3.frozen (p := ⟨w.heap.size, 0, none⟩) hl2).trans f0
  have f1 := (hb3.frozen (p := ⟨w.heap.size, 1, none⟩) hl2).trans f1
  have H3 := hide (H2.out.keep hb3)
  have HIO3 := hide (HIO.out.keep (fun g hg => hb3.block g (HIO.out.lt g hg).2))
  have HNC : Hid (∀ j : Nat, (obs q (.slice (some ⟨ge, 0, none⟩) E.length ce) vs (.slice (some ⟨gi, 0, none⟩) I.length ci) vg iv)[j]? ≠ some (some w2.heap.size)) := hide (H2.out.new (Nat.le_refl _))
  have g2 := bsome hb3 g2
  have q0 := bsome hb3 q0
  have q2 := bsome hb3 q2
  have gfc := (hb3.frozen (p := ⟨gi, c, none⟩) hgi).trans gfc
  have hbz : w.heap.size ≤ w2.heap.size := by omega
  obtain ⟨W3, hW3⟩ : ∃ W3, w2.alloc (.cells #[.int .i64 n1, .int .i64 n2] 59) = W3 := ⟨_, rfl⟩
  obtain ⟨bx, hbx⟩ : ∃ bx, w2.heap.size = bx := ⟨_, rfl⟩
  rw [hW3] at x0 x1 HB3 z0 z1 f0 f1 H3 HIO3 g2 q0 q2 gfc ⊢
  rw [hbx] at x0 x1 HNC hbz ⊢
  obtain ⟨br, hbr⟩ : ∃ br, w.heap.size = br := ⟨_, rfl⟩
  have HBR : Hid (w.heap.size ≤ br) := hide (Nat.le_of_eq hbr)
  have hxr : ¬ bx = br := by omega
  rw [hbr] at z0 z1 f0 f1 HNB ⊢
  clear hW3 hbx hbr hb3 y0 y1 g1 HIO H2 HB2 hl2 hbz hgi HT HWt HB0 HB1
  have nri : ¬ br = gi := fun e => HNB.out 3 (by rw [e]; rfl)
  have nre : ¬ br = ge := fun e => HNB.out 1 (by rw [e]; rfl)
  have nrq : ¬ br = q := fun e => HNB.out 0 (by rw [e]; rfl)
  have nxi : ¬ bx = gi := fun e => HNC.out 3 (by rw [e]; rfl)
  have nxe : ¬ bx = ge := fun e => HNC.out 1 (by rw [e]; rfl)
  have nqi : ¬ q = gi := fun e => H3.out.qn.2.2.1 (by rw [e]; rfl)
  have hmul : ¬ ((M.length : Int) + 1 < 1) := by omega
  have MAIN : ∀ (v' : Value), IO B W3 v' M → (v'.ownBlock = some gl) → Hid (BK B (W3.setCell ⟨gi, c, none⟩ v').drew q (.slice (some ⟨ge, 0, none⟩) E.length ce) vs (.slice (some ⟨gi, 0, none⟩) I.length ci) vg (iv.set c v') E S (I.set c M) G ∧ BC w (W3.setCell ⟨gi, c, none⟩ v').drew (obs q (.slice (some ⟨ge, 0, none⟩) E.length ce) vs (.slice (some ⟨gi, 0, none⟩) I.length ci) vg iv) (obs q (.slice (some ⟨ge, 0, none⟩) E.length ce) vs (.slice (some ⟨gi, 0, none⟩) I.length ci) vg (iv.set c v'))) := fun v' hv hb => by
    have hs := H3.out.setit (k := c) (M' := M) (v' := v') HI0.out HIV.out rfl (Kx.refl _ _) hv (.inr (.inl hb))
    exact hide ⟨hs.1.keep (w' := (W3.setCell ⟨gi, c, none⟩ v').drew) (below_drewN (Below.refl _ _) 1), (BC.of_below HB3.out _).trans (hs.2.trans (BC.of_below (w' := (W3.setCell ⟨gi, c, none⟩ v').drew) (below_drewN (Below.refl _ _) 1) _))⟩
  have HMAIN := hide MAIN
  clear MAIN
  go_cut [] from 10 to 89 (fun wx => ∃ v', Hid (IO B W3 v' M ∧ v'.ownBlock = some gl) ∧ wx = (W3.setCell ⟨gi, c, none⟩ v').drew)
  case first =>
    rcases (show ca = 1 ∨ 1 < ca by omega) with hcap | hcap
    · obtain rfl : M = [] := List.eq_nil_of_length_eq_zero (by omega)
      have HV : Hid (IO B W3 (.slice (some ⟨gl, ol, none⟩) 0 0) []) := hide (by have h := HIO3.out.tail ol (.inr ⟨hcap, rfl⟩); rw [hcap] at h; exact h)
      subst hcap
      go_wp2
      go_region
      go_wp2
      go_meet
      case rel => exact ⟨_, hide ⟨HV.out, rfl⟩, rfl⟩
    · have HV : Hid (IO B W3 (.slice (some ⟨gl, ol + 2, none⟩) M.length (ca - 1)) M) := hide (HIO3.out.tail (ol + 2) (.inl rfl))
      go_wp2
      go_region
      go_wp2
      go_meet
      case rel => exact ⟨_, hide ⟨HV.out, rfl⟩, rfl⟩
  case rest =>
    obtain ⟨v', HV, hwc⟩ := hcut
    have H4 := HMAIN.out v' HV.out.1 HV.out.2
    have x0 : (W3.setCell ⟨gi, c, none⟩ v').drew.cell? ⟨bx, 0, none⟩ = some (.int .i64 n1) := cset nxi x0
    have x1 : (W3.setCell ⟨gi, c, none⟩ v').drew.cell? ⟨bx, 1, none⟩ = some (.int .i64 n2) := cset nxi x1
    have z0 : (W3.setCell ⟨gi, c, none⟩ v').drew.cell? ⟨br, 0, none⟩ = some (.int .i64 0) := cset nri z0
    have z1 : (W3.setCell ⟨gi, c, none⟩ v').drew.cell? ⟨br, 1, none⟩ = some (.int .i64 0) := cset nri z1
    have f0 : (W3.setCell ⟨gi, c, none⟩ v').drew.frozen? ⟨br, 0, none⟩ = false := fset f0
    have f1 : (W3.setCell ⟨gi, c, none⟩ v').drew.frozen? ⟨br, 1, none⟩ = false := fset f1
    rw [← hwc] at H4 x0 x1 z0 z1 f0 f1
    have HNR : Hid (∀ j : Nat, (obs q (.slice (some ⟨ge, 0, none⟩) E.length ce) vs (.slice (some ⟨gi, 0, none⟩) I.length ci) vg (iv.set c v'))[j]? ≠ some (some br)) := hide (fun j hj => by
      have hjl := (List.getElem?_eq_some_iff.1 HIV.out).1
      have eqo : obs q (.slice (some ⟨ge, 0, none⟩) E.length ce) vs (.slice (some ⟨gi, 0, none⟩) I.length ci) vg (iv.set c v') = (obs q (.slice (some ⟨ge, 0, none⟩) E.length ce) vs (.slice (some ⟨gi, 0, none⟩) I.length ci) vg iv).set (5 + c) v'.ownBlock := by
        rw [Nat.add_comm 5 c]
        show _ :: _ :: _ :: _ :: _ :: (iv.set c v').map Value.ownBlock = _ :: _ :: _ :: _ :: _ :: (iv.map Value.ownBlock).set c v'.ownBlock
        rw [List.map_set]
      rw [eqo] at hj
      rcases set_or hj with h1 | h1
      · exact HNB.out j h1
      · rw [HV.out.2] at h1
        exact HNB.out (5 + c) (by rw [obs_it HIV.out]; exact congrArg some h1))
    clear hwc g2 q0 q2 gfc H3 HB3 HIO3 HMAIN HNB HNC
    have q0 := H4.out.1.c0
    by_cases hj0 : 0 ≤ n2
    · have dj : decide (0 ≤ n2) = true := decide_eq_true hj0
      obtain ⟨j, rfl⟩ : ∃ j : Nat, n2 = (j : Int) := ⟨(n2).toNat, by omega⟩
      have hjl : j < E.length := by omega
      obtain ⟨y, hy⟩ : ∃ y, E[j]? = some y := ⟨_, List.getElem?_eq_getElem hjl⟩
      obtain ⟨ge', ce', hve, -, e1, e2, e3, e4, ef⟩ := H4.out.1.lg.at hy
      obtain ⟨rfl, rfl⟩ : ge = ge' ∧ ce = ce' := by simpa using hve
      have ef2 := ef (j * 4 + 2)
      have j1 : (j : Int) < (E.length : Int) := by omega
      have HJ := hide hy
      have hgiv : Bk.given E (j : Int) tk = if y.h ≠ -2 then E.set j { y with h := tk } else E := by
        have ha : Ld.at E (j : Int) = y := (by unfold Ld.at; rw [if_pos hj0, Int.toNat_natCast, hy]; rfl)
        unfold Bk.given
        rw [ha, Int.toNat_natCast]
        by_cases h2 : y.h = -2
        · rw [if_neg (fun h => h.2 h2), if_neg (fun h => h h2)]
        · rw [if_pos ⟨by omega, h2⟩, if_pos h2]
      clear hve ef hy hie
      by_cases hd : y.h = -2
      · have dd : (y.h != -2) = false := by rw [hd]; rfl
        rw [if_neg (fun h => h hd)] at hgiv
        have HGV := hide hgiv
        clear hd hgiv
        go_wp2
        go_quiet (fail)
        rename_i nq
        go_wp2
        refine bodyPost_ret (v := .tuple #[.agg #[.int .i64 n1, .int .i64 (j : Int)], .int .i64 1]) (by simp [results, Try.results31, go_sem, z0, z1]) rfl ⟨rfl, iv.set c v', ?_, ?_⟩
        · rw [HGV.out]
          exact (H4.out.1.keep (w' := wc.drewN nq) (below_drewN (Below.refl _ _) nq)).two HNR.out _ _
        · exact (H4.out.2.trans (BC.of_below (w' := wc.drewN nq) (below_drewN (Below.refl _ _) nq) _)).two HBR.out _ _
      · have dd : (y.h != -2) = true := bne_iff_ne.2 hd
        rw [if_pos hd] at hgiv
        have HGV := hide hgiv
        clear hd hgiv
        go_wp2
        go_quiet (fail)
        rename_i nq
        go_wp2
        go_region
        have H5 : Hid (BK B (wc.drewN (nq + 1)) q (.slice (some ⟨ge, 0, none⟩) E.length ce) vs (.slice (some ⟨gi, 0, none⟩) I.length ci) vg (iv.set c v') E S (I.set c M) G) := hide (H4.out.1.keep (below_drewN (Below.refl _ _) (nq + 1)))
        have H6 := hide (H5.out.seth HJ.out tk)
        have HC6 := hide ((H4.out.2.trans (BC.of_below (w' := wc.drewN (nq + 1)) (below_drewN (Below.refl _ _) (nq + 1)) _)).trans H6.out.2)
        have hxe : ¬ bx = ge := nxe
        go_wp2
        refine bodyPost_ret (v := .tuple #[.agg #[.int .i64 n1, .int .i64 (j : Int)], .int .i64 1]) (by simp [results, Try.results31, go_sem, z0, z1]) rfl ⟨rfl, iv.set c v', ?_, ?_⟩
        · rw [HGV.out]
          exact H6.out.1.two HNR.out _ _
        · exact HC6.out.two HBR.out _ _
    · have dj : decide (0 ≤ n2) = false := decide_eq_false hj0
      have hgiv : Bk.given E n2 tk = E := by unfold Bk.given; rw [if_neg (fun h => hj0 h.1)]
      have HGV := hide hgiv
      clear hgiv hie
      go_wp2
      go_quiet (fail)
      rename_i nq
      go_wp2
      refine bodyPost_ret (v := .tuple #[.agg #[.int .i64 n1, .int .i64 n2], .int .i64 1]) (by simp [results, Try.results31, go_sem, z0, z1]) rfl ⟨rfl, iv.set c v', ?_, ?_⟩
      · rw [HGV.out]
        exact (H4.out.1.keep (w' := wc.drewN nq) (below_drewN (Below.refl _ _) nq)).two HNR.out _ _
      · exact (H4.out.2.trans (BC.of_below (w' := wc.drewN nq) (below_drewN (Below.refl _ _) nq) _)).two HBR.out _ _
end Go.Proofs.Ytbepaimbbclejaa

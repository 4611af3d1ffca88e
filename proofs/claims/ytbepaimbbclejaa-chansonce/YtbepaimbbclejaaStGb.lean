import Derived.Test.YtbepaimbbclejaaStN
import Derived.Deep.RegionHeld3
/- Package chans: Put. -/
namespace Go.Proofs.Ytbepaimbbclejaa
open Go.RowKit

set_option maxRecDepth 100000
set_option maxHeartbeats 1000000
section
variable {B : Nat} {w w' : World} {q pl : Nat} {ve vc : Value} {P : List Pl} {E : List En} {S N : List Int} {I : List (List (Int × Int))} {G : List Bool}
theorem csPut_num (h : ST B w q pl ve vc P E S N I G) (o : BOk E S I G) (hN : SN E N) (e n en : Int) (h1 : Bk.there E e true = true) (hwt : Bk.waits E S I G e = false) (hen : en < 0) (hg : G[(Ld.at E e).c.toNat]? = some false) (M0 : List (Int × Int)) (hM : I[(Ld.at E e).c.toNat]? = some M0) (hM1 : M0.length ≤ 1000) (hB : B ≤ w.heap.size) : Calls Try.prog 18 #[.pointer (some ⟨q, 0, none⟩), .int .i64 e, .agg #[.int .i64 n, .int .i64 en]] w fun r w' => r = .returned (.bool true) ∧ ∃ P', ST B w' q pl ve vc P' (Ld.move E (-1) (-1)) S N (I.set (Ld.at E e).c.toNat (M0 ++ [(n, -1)])) G ∧ BC w w' (sob q pl ve vc P) (sob q pl ve vc P') := by
  have hb0 : Below w.heap.size w (w.alloc (.cells #[.int .i64 n, .int .i64 en] 59)) := (Below.refl _ _).alloc (Nat.le_refl _) _
  obtain ⟨c, p, sl, M, g, hc, hp, hS, hnn, hI, hG, hch, -⟩ := h.of o hN h1
  have HS := hide (sendTo_yes (h.keep hb0) e h1 hc hp)
  have hw : Bk.waits E S I G e = (!g && fullJ sl.toNat M) := by
    unfold Bk.waits
    rw [h1, if_pos rfl, hc, Int.toNat_natCast]
    simp only [List.getD_eq_getElem?_getD, hS, hI, hG, Option.getD_some]
    rw [full_wait hch.s0]
  have HC : Hid (∀ X, Below w.heap.size w X → Calls Try.prog 22 #[.pointer (some ⟨p.1, 0, none⟩)] X fun e w' => e = .returned (.bool false) ∧ ∃ m, w' = X.drewN m) := hide (fun X hX => by
    have := stopS_any (hch.keep (X := fun _ => True) (Kx.of_below hX) trivial trivial (fun _ _ => trivial))
    rw [← hw, hwt] at this
    exact this)
  rw [hc, Int.toNat_natCast] at hg
  rw [hg] at hG
  cases hG
  have HMS : Hid (∀ X, Below w.heap.size w X → Calls Try.prog 41 #[.pointer (some ⟨q, 0, none⟩), .int .i64 e, .agg #[.int .i64 n, .int .i64 en]] X fun r w' => r = .returned (.bool true) ∧ Below X.heap.size X w') := hide (fun X hX => maySend_num X q e n en hen)
  have HPL := hide (plain_any n en)
  unfold Bk.pln at HPL
  rw [if_neg (by omega : ¬ 0 ≤ en)] at HPL
  have HG0 : Hid (∀ X, Kx (fun b => b ≠ w.heap.size) w X → X.cell? ⟨p.1, 2, none⟩ = some (.bool false) ∧ X.cell? ⟨p.1, 0, none⟩ = some (.pointer (some ⟨p.2.1, 0, none⟩))) := hide (fun X hX => ⟨hX.cell hch.c2 (fun (e : p.1 = w.heap.size) => by have := World.block_lt_of_cell? _ ⟨p.1, 0, none⟩ hch.c0; change p.1 < w.heap.size at this; omega), hX.cell hch.c0 (fun (e : p.1 = w.heap.size) => by have := World.block_lt_of_cell? _ ⟨p.1, 0, none⟩ hch.c0; change p.1 < w.heap.size at this; omega)⟩)
  have HNs := hide (fun j => h.new (Nat.le_refl w.heap.size) j)
  rw [hc, Int.toNat_natCast, hI] at hM
  cases hM
  have hfull : fullJ sl.toNat M0 = false := by rw [hw] at hwt; simpa using hwt
  have HPt : Hid (∀ X, Below w.heap.size w X → Calls Try.prog 43 #[.pointer (some ⟨p.2.1, 0, none⟩), .agg #[.int .i64 n, .int .i64 (-1)]] X fun e w' => ∃ u, e = .returned u ∧ (∃ cv', RJ w' p.2.1 cv' sl.toNat (M0 ++ [(n, (-1))]) ∧ RC X w' p.2.1 p.2.2 cv')) := hide (fun X hX => (putj (n, (-1)) (hch.keep (X := fun _ => True) (Kx.of_below hX) trivial trivial (fun _ _ => trivial)).r hM1 hfull).mono (fun e w' h => ⟨_, h.1, h.2⟩))
  have HX : Hid (∀ X X' cv', Below w.heap.size w X → RJ X' p.2.1 cv' sl.toNat (M0 ++ [(n, (-1))]) → RC X X' p.2.1 p.2.2 cv' → ST B X' q pl ve vc (P.set c (p.1, p.2.1, cv')) E S N (I.set c (M0 ++ [(n, (-1))])) G ∧ BC w X' (sob q pl ve vc P) (sob q pl ve vc (P.set c (p.1, p.2.1, cv'))) ∧ BC X X' (sob q pl ve vc P) (sob q pl ve vc (P.set c (p.1, p.2.1, cv')))) := hide (fun X X' cv' hX hr hk => by
    have := (h.keep hX).ring hp hS hnn hg (hch.keep (X := fun _ => True) (Kx.of_below hX) trivial trivial (fun _ _ => trivial)) (Nat.le_trans hB hX.size) hr hk.k hk.n
    exact ⟨this.1, (BC.of_below hX _).trans this.2, this.2⟩)
  have HMv : Hid (∀ X, LG B X pl ve E → Calls Try.prog 44 #[.pointer (some ⟨pl, 0, none⟩), .int .i64 (-1), .int .i64 (-1)] X fun r w' => ∃ u, r = .returned u ∧ (u = .bool (Ld.may E (-1) (-1)) ∧ LG B w' pl ve (Ld.move E (-1) (-1)) ∧ LC X w' pl ve ve)) := hide (fun X hX => (move_any hX (-1) (-1)).mono (fun e w' h => ⟨_, h.1, rfl, h.2⟩))
  have hwp : w.heap.size ≠ pl ∧ some w.heap.size ≠ ve.ownBlock := ⟨fun e => by have := h.lg.plt; omega, fun e => by have := (h.lg.o.lt w.heap.size e.symm).2; omega⟩
  have hqp : q ≠ pl ∧ some q ≠ ve.ownBlock := ⟨fun e => absurd (h.dj 0 1 q rfl (by show some (some pl) = _; rw [e])) (by decide), fun e => absurd (h.dj 0 2 q rfl (by show some ve.ownBlock = _; rw [← e])) (by decide)⟩
  have hpw : p.1 ≠ w.heap.size := fun e => by have := World.block_lt_of_cell? _ ⟨p.1, 0, none⟩ hch.c0; change p.1 < w.heap.size at this; omega
  have HRn : Hid (w.heap.size ≠ p.2.1 ∧ some w.heap.size ≠ p.2.2.ownBlock) := hide (by
    have := hch.r.lt
    exact ⟨by omega, fun e => by have := (this.2 w.heap.size e.symm).1; omega⟩)
  have HR1 : Hid (p.1 ≠ p.2.1 ∧ some p.1 ≠ p.2.2.ownBlock) := hide (by
    obtain ⟨e1, e2, e3⟩ := sob_at (q := q) (pl := pl) (ve := ve) (vc := vc) hp
    exact ⟨fun e => absurd (h.dj _ _ p.1 e1 (by rw [e]; exact e2)) (by omega), fun e => absurd (h.dj _ _ p.1 e1 (by rw [e3, ← e])) (by omega)⟩)
  rw [hc, Int.toNat_natCast]
  clear hc hp hS hnn hI hg hch hw hwt h1 h o hN hen hfull hM1
  go_enter Try.func18, Try.ntmps18
  go_wp2_with fail
  refine HS.out.mono ?_
  rintro e1 w1 ⟨rfl, hb⟩
  have z0 : w1.cell? ⟨w.heap.size, 0, none⟩ = some (.int .i64 n) := bsome hb (by simp [go_sem])
  have z1 : w1.cell? ⟨w.heap.size, 1, none⟩ = some (.int .i64 en) := bsome hb (by simp [go_sem])
  have z2 : w1.frozen? ⟨w.heap.size, 0, none⟩ = false := (hb.frozen (p := ⟨w.heap.size, 0, none⟩) (by simp)).trans (by simp [go_sem])
  have z3 : w1.frozen? ⟨w.heap.size, 1, none⟩ = false := (hb.frozen (p := ⟨w.heap.size, 1, none⟩) (by simp)).trans (by simp [go_sem])
  have HB := hide (btrans hb0 hb)
  clear hb hb0
  go_wp2_with fail
  refine (HC.out _ HB.out).mono ?_
  rintro e2 w2 ⟨rfl, m, rfl⟩
  have HB2 := hide (below_drewN HB.out m)
  have HE2 : Hid (Below w1.heap.size w1 (w1.drewN m)) := hide (below_drewN (Below.refl _ _) m)
  have z0' : (w1.drewN m).cell? ⟨w.heap.size, 0, none⟩ = some (.int .i64 n) := z0
  have z1' : (w1.drewN m).cell? ⟨w.heap.size, 1, none⟩ = some (.int .i64 en) := z1
  go_wp2_with fail
  refine (HMS.out _ HB2.out).mono ?_
  rintro e3 w3 ⟨rfl, hb⟩
  have HB3 := hide (btrans HB2.out hb)
  have HE3 := hide (btrans HE2.out hb)
  have z0' := bsome HE3.out z0
  have z1' := bsome HE3.out z1
  clear hb
  go_wp2_with fail
  refine (HPL.out _).mono ?_
  rintro e4 w4 ⟨rfl, hb⟩
  have HB4 := hide (btrans HB3.out hb)
  have HE4 := hide (btrans HE3.out hb)
  have hsz1 : w.heap.size < w1.heap.size := World.block_lt_of_cell? _ _ z0
  have z0' := bsome HE4.out z0
  have z1' := bsome HE4.out z1
  have z2' : w4.frozen? ⟨w.heap.size, 0, none⟩ = false := (HE4.out.frozen (p := ⟨w.heap.size, 0, none⟩) hsz1).trans z2
  have z3' : w4.frozen? ⟨w.heap.size, 1, none⟩ = false := (HE4.out.frozen (p := ⟨w.heap.size, 1, none⟩) hsz1).trans z3
  have y := set_two z0' z1' (.int .i64 n) (.int .i64 (-1))
  have kz : Kx (fun b => b ≠ w.heap.size) w4 ((w4.setCell ⟨w.heap.size, 0, none⟩ (.int .i64 n)).setCell ⟨w.heap.size, 1, none⟩ (.int .i64 (-1))) := ((Kx.refl _ _).set (p := ⟨w.heap.size, 0, none⟩) (.inr (fun e => e rfl)) _).set (p := ⟨w.heap.size, 1, none⟩) (.inr (fun e => e rfl)) _
  have hb5 : Below w.heap.size w ((w4.setCell ⟨w.heap.size, 0, none⟩ (.int .i64 n)).setCell ⟨w.heap.size, 1, none⟩ (.int .i64 (-1))) := bset (bset HB4.out (p := ⟨w.heap.size, 0, none⟩) (Nat.le_refl _) _) (p := ⟨w.heap.size, 1, none⟩) (Nat.le_refl _) _
  have HB5 := hide hb5
  obtain ⟨g2, g0⟩ := HG0.out _ ((Kx.of_below HB4.out).step kz (fun _ _ h => h))
  clear hb kz z0 z1 z2 z3 hb5 HPL HMS HC HS HE2 HE3 HE4 HB HB2 HB3 HB4
  go_wp2
  generalize hV : (w4.setCell ⟨w.heap.size, 0, none⟩ (.int .i64 n)).setCell ⟨w.heap.size, 1, none⟩ (.int .i64 (-1)) = V at *
  clear hV z0' z1' HG0
  have hkd : Below w.heap.size w V.drew := below_drewN HB5.out 1
  have HS0 : Hid (V.drew.cell? ⟨p.1, 0, none⟩ = some (.pointer (some ⟨p.2.1, 0, none⟩)) ∧ V.drew.cell? ⟨w.heap.size, 0, none⟩ = some (.int .i64 n) ∧ V.drew.cell? ⟨w.heap.size, 1, none⟩ = some (.int .i64 (-1))) := hide ⟨g0, y.1, y.2⟩
  have HQ0 : Hid (∀ w' cv', RC V.drew w' p.2.1 p.2.2 cv' → w'.cell? ⟨p.1, 0, none⟩ = some (.pointer (some ⟨p.2.1, 0, none⟩)) ∧ w'.cell? ⟨w.heap.size, 0, none⟩ = some (.int .i64 n) ∧ w'.cell? ⟨w.heap.size, 1, none⟩ = some (.int .i64 (-1))) := hide (fun w' cv' hl => ⟨hl.k.cell HS0.out.1 HR1.out, hl.k.cell HS0.out.2.1 HRn.out, hl.k.cell HS0.out.2.2 HRn.out⟩)
  have HP2 := hide (HPt.out V.drew hkd)
  clear HPt
  go_region_held3 (fun w' => w'.cell? ⟨p.1, 0, none⟩ = some (.pointer (some ⟨p.2.1, 0, none⟩)) ∧ w'.cell? ⟨w.heap.size, 0, none⟩ = some (.int .i64 n) ∧ w'.cell? ⟨w.heap.size, 1, none⟩ = some (.int .i64 (-1))) ((first | (with_reducible exact HS0.out) | (with_reducible exact HQ0.out _ _ LCN.out) | go_keep)) ((refine step_call_w (by rfl) 43 #[.pointer (some ⟨p.2.1, 0, none⟩), .agg #[.int .i64 n, .int .i64 (-1)]] ?_ HP2.out ?_; (focus (go_simp; done)); rintro v7 w7 ⟨cv', hrj, hrc⟩; have LGN := hide hrj; have LCN := hide hrc; clear hrj hrc))
  have H7 := hide (HX.out _ _ _ hkd LGN.out LCN.out)
  have x1 := (HQ0.out _ _ LCN.out).2.2
  have q7 := H7.out.1.c0
  have hn7 : w.heap.size < w7.heap.size := World.block_lt_of_cell? _ _ x1
  have HN7 : Hid (∀ (j b : Nat), (sob q pl ve vc (P.set c (p.1, p.2.1, cv')))[j]? = some (some b) → b ≠ w.heap.size) := hide (fun j b hj e => by
    subst e
    rcases H7.out.2.2.n j _ hj with ⟨i, hi⟩ | hs
    · exact HNs.out i hi
    · have : w.heap.size < V.drew.heap.size := World.block_lt_of_cell? _ _ HS0.out.2.1
      omega)
  clear HX HP2 HQ0 LGN LCN HS0 g0 g2 y hkd
  go_wp2
  have hkd : Below w7.heap.size w7 w7.drew := below_drewN (Below.refl _ _) 1
  have HS1 : Hid (w7.drew.cell? ⟨q, 0, none⟩ = some (.pointer (some ⟨pl, 0, none⟩)) ∧ w7.drew.cell? ⟨w.heap.size, 1, none⟩ = some (.int .i64 (-1))) := hide ⟨q7, x1⟩
  have HQ1 : Hid (∀ w' ve', LC w7.drew w' pl ve ve' → w'.cell? ⟨q, 0, none⟩ = some (.pointer (some ⟨pl, 0, none⟩)) ∧ w'.cell? ⟨w.heap.size, 1, none⟩ = some (.int .i64 (-1))) := hide (fun w' ve' hl => ⟨hl.k.cell HS1.out.1 hqp, hl.k.cell HS1.out.2 hwp⟩)
  have HM2 := hide (HMv.out w7.drew (H7.out.1.lg.keep hkd))
  clear HMv
  go_region_held3 (fun w' => w'.cell? ⟨q, 0, none⟩ = some (.pointer (some ⟨pl, 0, none⟩)) ∧ w'.cell? ⟨w.heap.size, 1, none⟩ = some (.int .i64 (-1))) ((first | (with_reducible exact HS1.out) | (with_reducible exact HQ1.out _ _ LCM.out) | go_keep)) ((refine step_call_w (by rfl) 44 #[.pointer (some ⟨pl, 0, none⟩), .int .i64 (-1), .int .i64 (-1)] ?_ HM2.out ?_; (focus (go_simp; done)); rintro v8 w8 ⟨rfl, hlg, hlc⟩; have LGM := hide hlg; have LCM := hide hlc; clear hlg hlc))
  have H8 := hide ((H7.out.1.keep hkd).led LGM.out LCM.out)
  go_wp2
  go_ret
  exact ⟨rfl, _, H8.out.1, H7.out.2.1.trans ((BC.of_below hkd _).trans H8.out.2)⟩
theorem csPut_end (h : ST B w q pl ve vc P E S N I G) (o : BOk E S I G) (hN : SN E N) (e n en : Int) (h1 : Bk.there E e true = true) (hwt : Bk.waits E S I G e = false) (hen : 0 ≤ en) (hm : Bk.may E e en = true) (hg : G[(Ld.at E e).c.toNat]? = some false) (M0 : List (Int × Int)) (hM : I[(Ld.at E e).c.toNat]? = some M0) (hM1 : M0.length ≤ 1000) (hB : B ≤ w.heap.size) : Calls Try.prog 18 #[.pointer (some ⟨q, 0, none⟩), .int .i64 e, .agg #[.int .i64 n, .int .i64 en]] w fun r w' => r = .returned (.bool true) ∧ ∃ P', ST B w' q pl ve vc P' (Ld.move E en (-1)) S N (I.set (Ld.at E e).c.toNat (M0 ++ [(0, en)])) G ∧ BC w w' (sob q pl ve vc P) (sob q pl ve vc P') := by
  have hb0 : Below w.heap.size w (w.alloc (.cells #[.int .i64 n, .int .i64 en] 59)) := (Below.refl _ _).alloc (Nat.le_refl _) _
  obtain ⟨c, p, sl, M, g, hc, hp, hS, hnn, hI, hG, hch, -⟩ := h.of o hN h1
  have HS := hide (sendTo_yes (h.keep hb0) e h1 hc hp)
  have hw : Bk.waits E S I G e = (!g && fullJ sl.toNat M) := by
    unfold Bk.waits
    rw [h1, if_pos rfl, hc, Int.toNat_natCast]
    simp only [List.getD_eq_getElem?_getD, hS, hI, hG, Option.getD_some]
    rw [full_wait hch.s0]
  have HC : Hid (∀ X, Below w.heap.size w X → Calls Try.prog 22 #[.pointer (some ⟨p.1, 0, none⟩)] X fun e w' => e = .returned (.bool false) ∧ ∃ m, w' = X.drewN m) := hide (fun X hX => by
    have := stopS_any (hch.keep (X := fun _ => True) (Kx.of_below hX) trivial trivial (fun _ _ => trivial))
    rw [← hw, hwt] at this
    exact this)
  rw [hc, Int.toNat_natCast] at hg
  rw [hg] at hG
  cases hG
  have HMS : Hid (∀ X, Below w.heap.size w X → Calls Try.prog 41 #[.pointer (some ⟨q, 0, none⟩), .int .i64 e, .agg #[.int .i64 n, .int .i64 en]] X fun r w' => r = .returned (.bool true) ∧ Below X.heap.size X w') := hide (fun X hX => by
    have := maySend_end (h.keep hX) e n en hen
    rw [hm] at this
    exact this)
  have HPL := hide (plain_any n en)
  unfold Bk.pln at HPL
  rw [if_pos hen] at HPL
  have HG0 : Hid (∀ X, Kx (fun b => b ≠ w.heap.size) w X → X.cell? ⟨p.1, 2, none⟩ = some (.bool false) ∧ X.cell? ⟨p.1, 0, none⟩ = some (.pointer (some ⟨p.2.1, 0, none⟩))) := hide (fun X hX => ⟨hX.cell hch.c2 (fun (e : p.1 = w.heap.size) => by have := World.block_lt_of_cell? _ ⟨p.1, 0, none⟩ hch.c0; change p.1 < w.heap.size at this; omega), hX.cell hch.c0 (fun (e : p.1 = w.heap.size) => by have := World.block_lt_of_cell? _ ⟨p.1, 0, none⟩ hch.c0; change p.1 < w.heap.size at this; omega)⟩)
  have HNs := hide (fun j => h.new (Nat.le_refl w.heap.size) j)
  rw [hc, Int.toNat_natCast, hI] at hM
  cases hM
  have hfull : fullJ sl.toNat M0 = false := by rw [hw] at hwt; simpa using hwt
  have HPt : Hid (∀ X, Below w.heap.size w X → Calls Try.prog 43 #[.pointer (some ⟨p.2.1, 0, none⟩), .agg #[.int .i64 0, .int .i64 en]] X fun e w' => ∃ u, e = .returned u ∧ (∃ cv', RJ w' p.2.1 cv' sl.toNat (M0 ++ [(0, en)]) ∧ RC X w' p.2.1 p.2.2 cv')) := hide (fun X hX => (putj (0, en) (hch.keep (X := fun _ => True) (Kx.of_below hX) trivial trivial (fun _ _ => trivial)).r hM1 hfull).mono (fun e w' h => ⟨_, h.1, h.2⟩))
  have HX : Hid (∀ X X' cv', Below w.heap.size w X → RJ X' p.2.1 cv' sl.toNat (M0 ++ [(0, en)]) → RC X X' p.2.1 p.2.2 cv' → ST B X' q pl ve vc (P.set c (p.1, p.2.1, cv')) E S N (I.set c (M0 ++ [(0, en)])) G ∧ BC w X' (sob q pl ve vc P) (sob q pl ve vc (P.set c (p.1, p.2.1, cv'))) ∧ BC X X' (sob q pl ve vc P) (sob q pl ve vc (P.set c (p.1, p.2.1, cv')))) := hide (fun X X' cv' hX hr hk => by
    have := (h.keep hX).ring hp hS hnn hg (hch.keep (X := fun _ => True) (Kx.of_below hX) trivial trivial (fun _ _ => trivial)) (Nat.le_trans hB hX.size) hr hk.k hk.n
    exact ⟨this.1, (BC.of_below hX _).trans this.2, this.2⟩)
  have HMv : Hid (∀ X, LG B X pl ve E → Calls Try.prog 44 #[.pointer (some ⟨pl, 0, none⟩), .int .i64 en, .int .i64 (-1)] X fun r w' => ∃ u, r = .returned u ∧ (u = .bool (Ld.may E en (-1)) ∧ LG B w' pl ve (Ld.move E en (-1)) ∧ LC X w' pl ve ve)) := hide (fun X hX => (move_any hX en (-1)).mono (fun e w' h => ⟨_, h.1, rfl, h.2⟩))
  have hwp : w.heap.size ≠ pl ∧ some w.heap.size ≠ ve.ownBlock := ⟨fun e => by have := h.lg.plt; omega, fun e => by have := (h.lg.o.lt w.heap.size e.symm).2; omega⟩
  have hqp : q ≠ pl ∧ some q ≠ ve.ownBlock := ⟨fun e => absurd (h.dj 0 1 q rfl (by show some (some pl) = _; rw [e])) (by decide), fun e => absurd (h.dj 0 2 q rfl (by show some ve.ownBlock = _; rw [← e])) (by decide)⟩
  have hpw : p.1 ≠ w.heap.size := fun e => by have := World.block_lt_of_cell? _ ⟨p.1, 0, none⟩ hch.c0; change p.1 < w.heap.size at this; omega
  have HRn : Hid (w.heap.size ≠ p.2.1 ∧ some w.heap.size ≠ p.2.2.ownBlock) := hide (by
    have := hch.r.lt
    exact ⟨by omega, fun e => by have := (this.2 w.heap.size e.symm).1; omega⟩)
  have HR1 : Hid (p.1 ≠ p.2.1 ∧ some p.1 ≠ p.2.2.ownBlock) := hide (by
    obtain ⟨e1, e2, e3⟩ := sob_at (q := q) (pl := pl) (ve := ve) (vc := vc) hp
    exact ⟨fun e => absurd (h.dj _ _ p.1 e1 (by rw [e]; exact e2)) (by omega), fun e => absurd (h.dj _ _ p.1 e1 (by rw [e3, ← e])) (by omega)⟩)
  rw [hc, Int.toNat_natCast]
  clear hc hp hS hnn hI hg hch hw hwt h1 h o hN hen hm hfull hM1
  go_enter Try.func18, Try.ntmps18
  go_wp2_with fail
  refine HS.out.mono ?_
  rintro e1 w1 ⟨rfl, hb⟩
  have z0 : w1.cell? ⟨w.heap.size, 0, none⟩ = some (.int .i64 n) := bsome hb (by simp [go_sem])
  have z1 : w1.cell? ⟨w.heap.size, 1, none⟩ = some (.int .i64 en) := bsome hb (by simp [go_sem])
  have z2 : w1.frozen? ⟨w.heap.size, 0, none⟩ = false := (hb.frozen (p := ⟨w.heap.size, 0, none⟩) (by simp)).trans (by simp [go_sem])
  have z3 : w1.frozen? ⟨w.heap.size, 1, none⟩ = false := (hb.frozen (p := ⟨w.heap.size, 1, none⟩) (by simp)).trans (by simp [go_sem])
  have HB := hide (btrans hb0 hb)
  clear hb hb0
  go_wp2_with fail
  refine (HC.out _ HB.out).mono ?_
  rintro e2 w2 ⟨rfl, m, rfl⟩
  have HB2 := hide (below_drewN HB.out m)
  have HE2 : Hid (Below w1.heap.size w1 (w1.drewN m)) := hide (below_drewN (Below.refl _ _) m)
  have z0' : (w1.drewN m).cell? ⟨w.heap.size, 0, none⟩ = some (.int .i64 n) := z0
  have z1' : (w1.drewN m).cell? ⟨w.heap.size, 1, none⟩ = some (.int .i64 en) := z1
  go_wp2_with fail
  refine (HMS.out _ HB2.out).mono ?_
  rintro e3 w3 ⟨rfl, hb⟩
  have HB3 := hide (btrans HB2.out hb)
  have HE3 := hide (btrans HE2.out hb)
  have z0' := bsome HE3.out z0
  have z1' := bsome HE3.out z1
  clear hb
  go_wp2_with fail
  refine (HPL.out _).mono ?_
  rintro e4 w4 ⟨rfl, hb⟩
  have HB4 := hide (btrans HB3.out hb)
  have HE4 := hide (btrans HE3.out hb)
  have hsz1 : w.heap.size < w1.heap.size := World.block_lt_of_cell? _ _ z0
  have z0' := bsome HE4.out z0
  have z1' := bsome HE4.out z1
  have z2' : w4.frozen? ⟨w.heap.size, 0, none⟩ = false := (HE4.out.frozen (p := ⟨w.heap.size, 0, none⟩) hsz1).trans z2
  have z3' : w4.frozen? ⟨w.heap.size, 1, none⟩ = false := (HE4.out.frozen (p := ⟨w.heap.size, 1, none⟩) hsz1).trans z3
  have y := set_two z0' z1' (.int .i64 0) (.int .i64 en)
  have kz : Kx (fun b => b ≠ w.heap.size) w4 ((w4.setCell ⟨w.heap.size, 0, none⟩ (.int .i64 0)).setCell ⟨w.heap.size, 1, none⟩ (.int .i64 en)) := ((Kx.refl _ _).set (p := ⟨w.heap.size, 0, none⟩) (.inr (fun e => e rfl)) _).set (p := ⟨w.heap.size, 1, none⟩) (.inr (fun e => e rfl)) _
  have hb5 : Below w.heap.size w ((w4.setCell ⟨w.heap.size, 0, none⟩ (.int .i64 0)).setCell ⟨w.heap.size, 1, none⟩ (.int .i64 en)) := bset (bset HB4.out (p := ⟨w.heap.size, 0, none⟩) (Nat.le_refl _) _) (p := ⟨w.heap.size, 1, none⟩) (Nat.le_refl _) _
  have HB5 := hide hb5
  obtain ⟨g2, g0⟩ := HG0.out _ ((Kx.of_below HB4.out).step kz (fun _ _ h => h))
  clear hb kz z0 z1 z2 z3 hb5 HPL HMS HC HS HE2 HE3 HE4 HB HB2 HB3 HB4
  go_wp2
  generalize hV : (w4.setCell ⟨w.heap.size, 0, none⟩ (.int .i64 0)).setCell ⟨w.heap.size, 1, none⟩ (.int .i64 en) = V at *
  clear hV z0' z1' HG0
  have hkd : Below w.heap.size w V.drew := below_drewN HB5.out 1
  have HS0 : Hid (V.drew.cell? ⟨p.1, 0, none⟩ = some (.pointer (some ⟨p.2.1, 0, none⟩)) ∧ V.drew.cell? ⟨w.heap.size, 0, none⟩ = some (.int .i64 0) ∧ V.drew.cell? ⟨w.heap.size, 1, none⟩ = some (.int .i64 en)) := hide ⟨g0, y.1, y.2⟩
  have HQ0 : Hid (∀ w' cv', RC V.drew w' p.2.1 p.2.2 cv' → w'.cell? ⟨p.1, 0, none⟩ = some (.pointer (some ⟨p.2.1, 0, none⟩)) ∧ w'.cell? ⟨w.heap.size, 0, none⟩ = some (.int .i64 0) ∧ w'.cell? ⟨w.heap.size, 1, none⟩ = some (.int .i64 en)) := hide (fun w' cv' hl => ⟨hl.k.cell HS0.out.1 HR1.out, hl.k.cell HS0.out.2.1 HRn.out, hl.k.cell HS0.out.2.2 HRn.out⟩)
  have HP2 := hide (HPt.out V.drew hkd)
  clear HPt
  go_region_held3 (fun w' => w'.cell? ⟨p.1, 0, none⟩ = some (.pointer (some ⟨p.2.1, 0, none⟩)) ∧ w'.cell? ⟨w.heap.size, 0, none⟩ = some (.int .i64 0) ∧ w'.cell? ⟨w.heap.size, 1, none⟩ = some (.int .i64 en)) ((first | (with_reducible exact HS0.out) | (with_reducible exact HQ0.out _ _ LCN.out) | go_keep)) ((refine step_call_w (by rfl) 43 #[.pointer (some ⟨p.2.1, 0, none⟩), .agg #[.int .i64 0, .int .i64 en]] ?_ HP2.out ?_; (focus (go_simp; done)); rintro v7 w7 ⟨cv', hrj, hrc⟩; have LGN := hide hrj; have LCN := hide hrc; clear hrj hrc))
  have H7 := hide (HX.out _ _ _ hkd LGN.out LCN.out)
  have x1 := (HQ0.out _ _ LCN.out).2.2
  have q7 := H7.out.1.c0
  have hn7 : w.heap.size < w7.heap.size := World.block_lt_of_cell? _ _ x1
  have HN7 : Hid (∀ (j b : Nat), (sob q pl ve vc (P.set c (p.1, p.2.1, cv')))[j]? = some (some b) → b ≠ w.heap.size) := hide (fun j b hj e => by
    subst e
    rcases H7.out.2.2.n j _ hj with ⟨i, hi⟩ | hs
    · exact HNs.out i hi
    · have : w.heap.size < V.drew.heap.size := World.block_lt_of_cell? _ _ HS0.out.2.1
      omega)
  clear HX HP2 HQ0 LGN LCN HS0 g0 g2 y hkd
  go_wp2
  have hkd : Below w7.heap.size w7 w7.drew := below_drewN (Below.refl _ _) 1
  have HS1 : Hid (w7.drew.cell? ⟨q, 0, none⟩ = some (.pointer (some ⟨pl, 0, none⟩)) ∧ w7.drew.cell? ⟨w.heap.size, 1, none⟩ = some (.int .i64 en)) := hide ⟨q7, x1⟩
  have HQ1 : Hid (∀ w' ve', LC w7.drew w' pl ve ve' → w'.cell? ⟨q, 0, none⟩ = some (.pointer (some ⟨pl, 0, none⟩)) ∧ w'.cell? ⟨w.heap.size, 1, none⟩ = some (.int .i64 en)) := hide (fun w' ve' hl => ⟨hl.k.cell HS1.out.1 hqp, hl.k.cell HS1.out.2 hwp⟩)
  have HM2 := hide (HMv.out w7.drew (H7.out.1.lg.keep hkd))
  clear HMv
  go_region_held3 (fun w' => w'.cell? ⟨q, 0, none⟩ = some (.pointer (some ⟨pl, 0, none⟩)) ∧ w'.cell? ⟨w.heap.size, 1, none⟩ = some (.int .i64 en)) ((first | (with_reducible exact HS1.out) | (with_reducible exact HQ1.out _ _ LCM.out) | go_keep)) ((refine step_call_w (by rfl) 44 #[.pointer (some ⟨pl, 0, none⟩), .int .i64 en, .int .i64 (-1)] ?_ HM2.out ?_; (focus (go_simp; done)); rintro v8 w8 ⟨rfl, hlg, hlc⟩; have LGM := hide hlg; have LCM := hide hlc; clear hlg hlc))
  have H8 := hide ((H7.out.1.keep hkd).led LGM.out LCM.out)
  go_wp2
  go_ret
  exact ⟨rfl, _, H8.out.1, H7.out.2.1.trans ((BC.of_below hkd _).trans H8.out.2)⟩
end
end Go.Proofs.Ytbepaimbbclejaa
/- Package chans: Put that is refused, or into a channel that is gone. -/
namespace Go.Proofs.Ytbepaimbbclejaa
open Go.RowKit

set_option maxRecDepth 100000
set_option maxHeartbeats 1000000
section
variable {B : Nat} {w w' : World} {q pl : Nat} {ve vc : Value} {P : List Pl} {E : List En} {S N : List Int} {I : List (List (Int × Int))} {G : List Bool}
theorem csPut_no (h : ST B w q pl ve vc P E S N I G) (o : BOk E S I G) (hN : SN E N) (e n en : Int) (hn : Bk.there E e true = false ∨ Bk.waits E S I G e = true ∨ (0 ≤ en ∧ Bk.may E e en = false)) : Calls Try.prog 18 #[.pointer (some ⟨q, 0, none⟩), .int .i64 e, .agg #[.int .i64 n, .int .i64 en]] w fun r w' => r = .returned (.bool false) ∧ Below w.heap.size w w' := by
  have hb0 : Below w.heap.size w (w.alloc (.cells #[.int .i64 n, .int .i64 en] 59)) := (Below.refl _ _).alloc (Nat.le_refl _) _
  cases h1 : Bk.there E e true with
  | false =>
    have HS := hide (sendTo_no (h.keep hb0) e h1)
    clear h o hN hn h1
    go_enter Try.func18, Try.ntmps18
    go_wp2_with fail
    refine HS.out.mono ?_
    rintro e w1 ⟨rfl, hb⟩
    have HB := hide (btrans hb0 hb)
    clear hb hb0
    go_wp2
    go_ret
    exact ⟨rfl, HB.out⟩
  | true =>
    obtain ⟨c, p, sl, M, g, hc, hp, hS, hnn, hI, hG, hch, -⟩ := h.of o hN h1
    have HS := hide (sendTo_yes (h.keep hb0) e h1 hc hp)
    have hw : Bk.waits E S I G e = (!g && fullJ sl.toNat M) := by
      unfold Bk.waits
      rw [h1, if_pos rfl, hc, Int.toNat_natCast]
      simp only [List.getD_eq_getElem?_getD, hS, hI, hG, Option.getD_some]
      rw [full_wait hch.s0]
    have HC : Hid (∀ X, Below w.heap.size w X → Calls Try.prog 22 #[.pointer (some ⟨p.1, 0, none⟩)] X fun r w' => r = .returned (.bool (Bk.waits E S I G e)) ∧ ∃ m, w' = X.drewN m) := hide (fun X hX => by
      rw [hw]
      exact stopS_any (hch.keep (X := fun _ => True) (Kx.of_below hX) trivial trivial (fun _ _ => trivial)))
    cases hwt : Bk.waits E S I G e with
    | true =>
      rw [hwt] at HC
      clear h o hN hn h1 hc hp hS hnn hI hG hch hw hwt
      go_enter Try.func18, Try.ntmps18
      go_wp2_with fail
      refine HS.out.mono ?_
      rintro e w1 ⟨rfl, hb⟩
      have HB := hide (btrans hb0 hb)
      clear hb hb0
      go_wp2_with fail
      refine (HC.out _ HB.out).mono ?_
      rintro e w2 ⟨rfl, m, rfl⟩
      go_wp2
      go_ret
      exact ⟨rfl, below_drewN HB.out m⟩
    | false =>
      rw [hwt] at HC
      have hm : 0 ≤ en ∧ Bk.may E e en = false := by
        rcases hn with hn | hn | hn
        · rw [h1] at hn; cases hn
        · rw [hwt] at hn; cases hn
        · exact hn
      have HMS : Hid (∀ X, Below w.heap.size w X → Calls Try.prog 41 #[.pointer (some ⟨q, 0, none⟩), .int .i64 e, .agg #[.int .i64 n, .int .i64 en]] X fun r w' => r = .returned (.bool false) ∧ Below X.heap.size X w') := hide (fun X hX => by
        have := maySend_end (h.keep hX) e n en hm.1
        rw [hm.2] at this
        exact this)
      clear h o hN hn h1 hc hp hS hnn hI hG hch hw hwt hm
      go_enter Try.func18, Try.ntmps18
      go_wp2_with fail
      refine HS.out.mono ?_
      rintro e1 w1 ⟨rfl, hb⟩
      have z0 : w1.cell? ⟨w.heap.size, 0, none⟩ = some (.int .i64 n) := bsome hb (by simp [go_sem])
      have z1 : w1.cell? ⟨w.heap.size, 1, none⟩ = some (.int .i64 en) := bsome hb (by simp [go_sem])
      have HB := hide (btrans hb0 hb)
      clear hb hb0
      go_wp2_with fail
      refine (HC.out _ HB.out).mono ?_
      rintro e2 w2 ⟨rfl, m, rfl⟩
      have HB2 := hide (below_drewN HB.out m)
      have z0 : (w1.drewN m).cell? ⟨w.heap.size, 0, none⟩ = some (.int .i64 n) := z0
      have z1 : (w1.drewN m).cell? ⟨w.heap.size, 1, none⟩ = some (.int .i64 en) := z1
      go_wp2_with fail
      refine (HMS.out _ HB2.out).mono ?_
      rintro e3 w3 ⟨rfl, hb⟩
      have HB3 := hide (btrans HB2.out hb)
      clear hb
      go_wp2
      go_ret
      exact ⟨rfl, HB3.out⟩
theorem csPut_gn (h : ST B w q pl ve vc P E S N I G) (o : BOk E S I G) (hN : SN E N) (e n en : Int) (h1 : Bk.there E e true = true) (hwt : Bk.waits E S I G e = false) (hen : en < 0) (hg : G[(Ld.at E e).c.toNat]? = some true) : Calls Try.prog 18 #[.pointer (some ⟨q, 0, none⟩), .int .i64 e, .agg #[.int .i64 n, .int .i64 en]] w fun r w' => r = .returned (.bool true) ∧ Below w.heap.size w w' := by
  have hb0 : Below w.heap.size w (w.alloc (.cells #[.int .i64 n, .int .i64 en] 59)) := (Below.refl _ _).alloc (Nat.le_refl _) _
  obtain ⟨c, p, sl, M, g, hc, hp, hS, hnn, hI, hG, hch, -⟩ := h.of o hN h1
  have HS := hide (sendTo_yes (h.keep hb0) e h1 hc hp)
  have hw : Bk.waits E S I G e = (!g && fullJ sl.toNat M) := by
    unfold Bk.waits
    rw [h1, if_pos rfl, hc, Int.toNat_natCast]
    simp only [List.getD_eq_getElem?_getD, hS, hI, hG, Option.getD_some]
    rw [full_wait hch.s0]
  have HC : Hid (∀ X, Below w.heap.size w X → Calls Try.prog 22 #[.pointer (some ⟨p.1, 0, none⟩)] X fun e w' => e = .returned (.bool false) ∧ ∃ m, w' = X.drewN m) := hide (fun X hX => by
    have := stopS_any (hch.keep (X := fun _ => True) (Kx.of_below hX) trivial trivial (fun _ _ => trivial))
    rw [← hw, hwt] at this
    exact this)
  rw [hc, Int.toNat_natCast] at hg
  rw [hg] at hG
  cases hG
  have HMS : Hid (∀ X, Below w.heap.size w X → Calls Try.prog 41 #[.pointer (some ⟨q, 0, none⟩), .int .i64 e, .agg #[.int .i64 n, .int .i64 en]] X fun r w' => r = .returned (.bool true) ∧ Below X.heap.size X w') := hide (fun X hX => maySend_num X q e n en hen)
  have HPL := hide (plain_any n en)
  unfold Bk.pln at HPL
  rw [if_neg (by omega : ¬ 0 ≤ en)] at HPL
  have HG0 : Hid (∀ X, Kx (fun b => b ≠ w.heap.size) w X → X.cell? ⟨p.1, 2, none⟩ = some (.bool true) ∧ X.cell? ⟨p.1, 0, none⟩ = some (.pointer (some ⟨p.2.1, 0, none⟩))) := hide (fun X hX => ⟨hX.cell hch.c2 (fun (e : p.1 = w.heap.size) => by have := World.block_lt_of_cell? _ ⟨p.1, 0, none⟩ hch.c0; change p.1 < w.heap.size at this; omega), hX.cell hch.c0 (fun (e : p.1 = w.heap.size) => by have := World.block_lt_of_cell? _ ⟨p.1, 0, none⟩ hch.c0; change p.1 < w.heap.size at this; omega)⟩)
  have HNs := hide (fun j => h.new (Nat.le_refl w.heap.size) j)
  clear hc hp hS hnn hI hg hch hw hwt h1 h o hN hen
  go_enter Try.func18, Try.ntmps18
  go_wp2_with fail
  refine HS.out.mono ?_
  rintro e1 w1 ⟨rfl, hb⟩
  have z0 : w1.cell? ⟨w.heap.size, 0, none⟩ = some (.int .i64 n) := bsome hb (by simp [go_sem])
  have z1 : w1.cell? ⟨w.heap.size, 1, none⟩ = some (.int .i64 en) := bsome hb (by simp [go_sem])
  have z2 : w1.frozen? ⟨w.heap.size, 0, none⟩ = false := (hb.frozen (p := ⟨w.heap.size, 0, none⟩) (by simp)).trans (by simp [go_sem])
  have z3 : w1.frozen? ⟨w.heap.size, 1, none⟩ = false := (hb.frozen (p := ⟨w.heap.size, 1, none⟩) (by simp)).trans (by simp [go_sem])
  have HB := hide (btrans hb0 hb)
  clear hb hb0
  go_wp2_with fail
  refine (HC.out _ HB.out).mono ?_
  rintro e2 w2 ⟨rfl, m, rfl⟩
  have HB2 := hide (below_drewN HB.out m)
  have HE2 : Hid (Below w1.heap.size w1 (w1.drewN m)) := hide (below_drewN (Below.refl _ _) m)
  have z0' : (w1.drewN m).cell? ⟨w.heap.size, 0, none⟩ = some (.int .i64 n) := z0
  have z1' : (w1.drewN m).cell? ⟨w.heap.size, 1, none⟩ = some (.int .i64 en) := z1
  go_wp2_with fail
  refine (HMS.out _ HB2.out).mono ?_
  rintro e3 w3 ⟨rfl, hb⟩
  have HB3 := hide (btrans HB2.out hb)
  have HE3 := hide (btrans HE2.out hb)
  have z0' := bsome HE3.out z0
  have z1' := bsome HE3.out z1
  clear hb
  go_wp2_with fail
  refine (HPL.out _).mono ?_
  rintro e4 w4 ⟨rfl, hb⟩
  have HB4 := hide (btrans HB3.out hb)
  have HE4 := hide (btrans HE3.out hb)
  have hsz1 : w.heap.size < w1.heap.size := World.block_lt_of_cell? _ _ z0
  have z0' := bsome HE4.out z0
  have z1' := bsome HE4.out z1
  have z2' : w4.frozen? ⟨w.heap.size, 0, none⟩ = false := (HE4.out.frozen (p := ⟨w.heap.size, 0, none⟩) hsz1).trans z2
  have z3' : w4.frozen? ⟨w.heap.size, 1, none⟩ = false := (HE4.out.frozen (p := ⟨w.heap.size, 1, none⟩) hsz1).trans z3
  have y := set_two z0' z1' (.int .i64 n) (.int .i64 (-1))
  have kz : Kx (fun b => b ≠ w.heap.size) w4 ((w4.setCell ⟨w.heap.size, 0, none⟩ (.int .i64 n)).setCell ⟨w.heap.size, 1, none⟩ (.int .i64 (-1))) := ((Kx.refl _ _).set (p := ⟨w.heap.size, 0, none⟩) (.inr (fun e => e rfl)) _).set (p := ⟨w.heap.size, 1, none⟩) (.inr (fun e => e rfl)) _
  have hb5 : Below w.heap.size w ((w4.setCell ⟨w.heap.size, 0, none⟩ (.int .i64 n)).setCell ⟨w.heap.size, 1, none⟩ (.int .i64 (-1))) := bset (bset HB4.out (p := ⟨w.heap.size, 0, none⟩) (Nat.le_refl _) _) (p := ⟨w.heap.size, 1, none⟩) (Nat.le_refl _) _
  have HB5 := hide hb5
  obtain ⟨g2, g0⟩ := HG0.out _ ((Kx.of_below HB4.out).step kz (fun _ _ h => h))
  clear hb kz z0 z1 z2 z3 hb5 HPL HMS HC HS HE2 HE3 HE4 HB HB2 HB3 HB4
  have HI := hide (isEnd_any n (-1))
  rw [decide_eq_false (by omega : ¬ (0 : Int) ≤ -1)] at HI
  have y0 := y.1
  have y1 := y.2
  clear y HG0
  go_wp2_with fail
  refine (HI.out _).mono ?_
  rintro e5 w5 ⟨rfl, hb⟩
  have HB6 := hide (btrans HB5.out hb)
  clear hb
  go_wp2
  go_ret
  exact ⟨rfl, HB6.out⟩
theorem csPut_gone (h : ST B w q pl ve vc P E S N I G) (o : BOk E S I G) (hN : SN E N) (e n en : Int) (h1 : Bk.there E e true = true) (hwt : Bk.waits E S I G e = false) (hen : 0 ≤ en) (hm : Bk.may E e en = true) (hg : G[(Ld.at E e).c.toNat]? = some true) (hT : Bk.tot I ≤ 1000) (f : Nat) (hf : Bk.tot I < f) : Calls Try.prog 18 #[.pointer (some ⟨q, 0, none⟩), .int .i64 e, .agg #[.int .i64 n, .int .i64 en]] w fun r w' => r = .returned (.bool true) ∧ ∃ P' N', ST B w' q pl ve vc P' (Bk.drop f ⟨E, I, G⟩ en).1.e S N' (Bk.drop f ⟨E, I, G⟩ en).1.i (Bk.drop f ⟨E, I, G⟩ en).1.g ∧ SN (Bk.drop f ⟨E, I, G⟩ en).1.e N' ∧ BC w w' (sob q pl ve vc P) (sob q pl ve vc P') := by
  have hb0 : Below w.heap.size w (w.alloc (.cells #[.int .i64 n, .int .i64 en] 59)) := (Below.refl _ _).alloc (Nat.le_refl _) _
  obtain ⟨c, p, sl, M, g, hc, hp, hS, hnn, hI, hG, hch, -⟩ := h.of o hN h1
  have HS := hide (sendTo_yes (h.keep hb0) e h1 hc hp)
  have hw : Bk.waits E S I G e = (!g && fullJ sl.toNat M) := by
    unfold Bk.waits
    rw [h1, if_pos rfl, hc, Int.toNat_natCast]
    simp only [List.getD_eq_getElem?_getD, hS, hI, hG, Option.getD_some]
    rw [full_wait hch.s0]
  have HC : Hid (∀ X, Below w.heap.size w X → Calls Try.prog 22 #[.pointer (some ⟨p.1, 0, none⟩)] X fun e w' => e = .returned (.bool false) ∧ ∃ m, w' = X.drewN m) := hide (fun X hX => by
    have := stopS_any (hch.keep (X := fun _ => True) (Kx.of_below hX) trivial trivial (fun _ _ => trivial))
    rw [← hw, hwt] at this
    exact this)
  rw [hc, Int.toNat_natCast] at hg
  rw [hg] at hG
  cases hG
  have HMS : Hid (∀ X, Below w.heap.size w X → Calls Try.prog 41 #[.pointer (some ⟨q, 0, none⟩), .int .i64 e, .agg #[.int .i64 n, .int .i64 en]] X fun r w' => r = .returned (.bool true) ∧ Below X.heap.size X w') := hide (fun X hX => by
    have := maySend_end (h.keep hX) e n en hen
    rw [hm] at this
    exact this)
  have HPL := hide (plain_any n en)
  unfold Bk.pln at HPL
  rw [if_pos hen] at HPL
  have HG0 : Hid (∀ X, Kx (fun b => b ≠ w.heap.size) w X → X.cell? ⟨p.1, 2, none⟩ = some (.bool true) ∧ X.cell? ⟨p.1, 0, none⟩ = some (.pointer (some ⟨p.2.1, 0, none⟩))) := hide (fun X hX => ⟨hX.cell hch.c2 (fun (e : p.1 = w.heap.size) => by have := World.block_lt_of_cell? _ ⟨p.1, 0, none⟩ hch.c0; change p.1 < w.heap.size at this; omega), hX.cell hch.c0 (fun (e : p.1 = w.heap.size) => by have := World.block_lt_of_cell? _ ⟨p.1, 0, none⟩ hch.c0; change p.1 < w.heap.size at this; omega)⟩)
  have HNs := hide (fun j => h.new (Nat.le_refl w.heap.size) j)
  have HDr : Hid (∀ X, Below w.heap.size w X → Calls Try.prog 16 #[.pointer (some ⟨q, 0, none⟩), .int .i64 en] X fun r w' => r = .returned (.bool (Bk.drop f ⟨E, I, G⟩ en).2) ∧ ∃ P' N', ST B w' q pl ve vc P' (Bk.drop f ⟨E, I, G⟩ en).1.e S N' (Bk.drop f ⟨E, I, G⟩ en).1.i (Bk.drop f ⟨E, I, G⟩ en).1.g ∧ SN (Bk.drop f ⟨E, I, G⟩ en).1.e N' ∧ DK X w' (sob q pl ve vc P) (sob q pl ve vc P')) := hide (fun X hX => csDrop_any (h.keep hX) o hN hT en f hf)
  clear hc hp hS hnn hI hg hch hw hwt h1 h o hN hm hT hf
  go_enter Try.func18, Try.ntmps18
  go_wp2_with fail
  refine HS.out.mono ?_
  rintro e1 w1 ⟨rfl, hb⟩
  have z0 : w1.cell? ⟨w.heap.size, 0, none⟩ = some (.int .i64 n) := bsome hb (by simp [go_sem])
  have z1 : w1.cell? ⟨w.heap.size, 1, none⟩ = some (.int .i64 en) := bsome hb (by simp [go_sem])
  have z2 : w1.frozen? ⟨w.heap.size, 0, none⟩ = false := (hb.frozen (p := ⟨w.heap.size, 0, none⟩) (by simp)).trans (by simp [go_sem])
  have z3 : w1.frozen? ⟨w.heap.size, 1, none⟩ = false := (hb.frozen (p := ⟨w.heap.size, 1, none⟩) (by simp)).trans (by simp [go_sem])
  have HB := hide (btrans hb0 hb)
  clear hb hb0
  go_wp2_with fail
  refine (HC.out _ HB.out).mono ?_
  rintro e2 w2 ⟨rfl, m, rfl⟩
  have HB2 := hide (below_drewN HB.out m)
  have HE2 : Hid (Below w1.heap.size w1 (w1.drewN m)) := hide (below_drewN (Below.refl _ _) m)
  have z0' : (w1.drewN m).cell? ⟨w.heap.size, 0, none⟩ = some (.int .i64 n) := z0
  have z1' : (w1.drewN m).cell? ⟨w.heap.size, 1, none⟩ = some (.int .i64 en) := z1
  go_wp2_with fail
  refine (HMS.out _ HB2.out).mono ?_
  rintro e3 w3 ⟨rfl, hb⟩
  have HB3 := hide (btrans HB2.out hb)
  have HE3 := hide (btrans HE2.out hb)
  have z0' := bsome HE3.out z0
  have z1' := bsome HE3.out z1
  clear hb
  go_wp2_with fail
  refine (HPL.out _).mono ?_
  rintro e4 w4 ⟨rfl, hb⟩
  have HB4 := hide (btrans HB3.out hb)
  have HE4 := hide (btrans HE3.out hb)
  have hsz1 : w.heap.size < w1.heap.size := World.block_lt_of_cell? _ _ z0
  have z0' := bsome HE4.out z0
  have z1' := bsome HE4.out z1
  have z2' : w4.frozen? ⟨w.heap.size, 0, none⟩ = false := (HE4.out.frozen (p := ⟨w.heap.size, 0, none⟩) hsz1).trans z2
  have z3' : w4.frozen? ⟨w.heap.size, 1, none⟩ = false := (HE4.out.frozen (p := ⟨w.heap.size, 1, none⟩) hsz1).trans z3
  have y := set_two z0' z1' (.int .i64 0) (.int .i64 en)
  have kz : Kx (fun b => b ≠ w.heap.size) w4 ((w4.setCell ⟨w.heap.size, 0, none⟩ (.int .i64 0)).setCell ⟨w.heap.size, 1, none⟩ (.int .i64 en)) := ((Kx.refl _ _).set (p := ⟨w.heap.size, 0, none⟩) (.inr (fun e => e rfl)) _).set (p := ⟨w.heap.size, 1, none⟩) (.inr (fun e => e rfl)) _
  have hb5 : Below w.heap.size w ((w4.setCell ⟨w.heap.size, 0, none⟩ (.int .i64 0)).setCell ⟨w.heap.size, 1, none⟩ (.int .i64 en)) := bset (bset HB4.out (p := ⟨w.heap.size, 0, none⟩) (Nat.le_refl _) _) (p := ⟨w.heap.size, 1, none⟩) (Nat.le_refl _) _
  have HB5 := hide hb5
  obtain ⟨g2, g0⟩ := HG0.out _ ((Kx.of_below HB4.out).step kz (fun _ _ h => h))
  clear hb kz z0 z1 z2 z3 hb5 HPL HMS HC HS HE2 HE3 HE4 HB HB2 HB3 HB4
  have HI := hide (isEnd_any 0 en)
  rw [decide_eq_true hen] at HI
  have y0 := y.1
  have y1 := y.2
  have hsx : w.heap.size < ((w4.setCell ⟨w.heap.size, 0, none⟩ (.int .i64 0)).setCell ⟨w.heap.size, 1, none⟩ (.int .i64 en)).heap.size := World.block_lt_of_cell? _ _ y.1
  clear y HG0 hen
  go_wp2_with fail
  refine (HI.out _).mono ?_
  rintro e5 w5 ⟨rfl, hb⟩
  have y1 := bsome hb y1
  have HB6 := hide (btrans HB5.out hb)
  clear hb
  go_wp2_with fail
  refine (HDr.out _ HB6.out).mono ?_
  rintro e6 w6 ⟨rfl, P', N', hst, hsn, hdk⟩
  have HR := hide (And.intro hst (And.intro hsn ((BC.of_below HB6.out _).trans hdk.bc)))
  clear hst hsn hdk
  go_wp2
  go_ret
  exact ⟨rfl, P', N', HR.out⟩
end
end Go.Proofs.Ytbepaimbbclejaa

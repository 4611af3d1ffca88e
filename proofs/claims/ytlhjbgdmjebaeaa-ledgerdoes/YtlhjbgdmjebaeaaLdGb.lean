import Derived.Test.YtlhjbgdmjebaeaaLdG
import Derived.Deep.RegionHeld3
/- The law LedgerDoes: a round. -/
namespace Go.Proofs.Ytlhjbgdmjebaeaa
open Go.RowKit

theorem csetl {W : World} {g c b o : Nat} {v u : Value} (hb : ¬ b = g) (h : W.cell? ⟨b, o, none⟩ = some u) : (W.setCell ⟨g, c, none⟩ v).cell? ⟨b, o, none⟩ = some u := by
  rw [World.cell?_setCell_other _ _ _ _ (fun e' => by injection e' with e1; omega)]
  exact h
set_option maxRecDepth 100000 in
set_option maxHeartbeats 4000000 in
theorem l_roundb (w1 wr : World) (u : Nat → Value) (gP oP n cv p q : Nat) (L : List En) (va vb : Value) (i : Nat) (P0 : List PanicEntry → Act → World → Prop) (Q1 : Exit → Act → World → Prop) (hlt : i < n) (hn : n ≤ 200) (hu : u 5 = .int .i64 i) (x : Stp)
    (X0 : Hid (w1.cell? ⟨gP, oP + i * 5, none⟩ = some (.int .i64 x.d))) (X1 : Hid (w1.cell? ⟨gP, oP + i * 5 + 1, none⟩ = some (.int .i64 x.e))) (X2 : Hid (w1.cell? ⟨gP, oP + i * 5 + 2, none⟩ = some (.int .i64 x.h))) (X3 : Hid (w1.cell? ⟨gP, oP + i * 5 + 3, none⟩ = some (.int .i64 x.n))) (X4 : Hid (w1.cell? ⟨gP, oP + i * 5 + 4, none⟩ = some (.bool x.s)))
    (HL : Hid (L2 w1 wr p q va vb L L)) (HF : Hid (Fw L i)) (k : Nat) (hk : wrap64 ((IntKind.u64.wrap x.d).tmod 8) = (k : Int)) (hk3 : k < 3) :
    Code.wp Try.prog lbody (Exit.then (fun a' w'' => LI w1 (some ⟨gP, oP, none⟩) n cv p q a' w'' ∧ Lmu n a' w'' < Lmu n (lframe (some ⟨gP, oP, none⟩) n cv p q u) wr) (qmix P0 Q1)) (lframe (some ⟨gP, oP, none⟩) n cv p q u) wr := by
  have x0 := bsome HL.out.bl X0.out
  have x1 := bsome HL.out.bl X1.out
  have x2 := bsome HL.out.bl X2.out
  have x3 := bsome HL.out.bl X3.out
  have x4 := bsome HL.out.bl X4.out
  have d1 : decide ((i : Int) < (n : Int)) = true := by simp; omega
  have i0 : (0 : Int) ≤ (i : Int) := by omega
  have i1 : (i : Int) < (n : Int) := by omega
  have CA := hide (fun w2 (hb : Below wr.heap.size wr w2) => rbAt_any (HL.out.keep hb).b x.e)
  have CE := hide (fun w2 (hb : Below wr.heap.size wr w2) => end_any (HL.out.keep hb).g x.e)
  have HY := hide (En.neq_same (Ld.at L x.e))
  generalize hy : Ld.at L x.e = y at CA CE HY
  generalize hh : Ld.has L x.e = hs at CA CE
  have HYE := hide (And.intro hy hh)
  clear hy hh
  conv => arg 2; whnf
  unfold lframe
  go_wp2_with fail
  refine (CA.out _ ((Below.refl _ _).alloc (Nat.le_refl _) _)).mono ?_
  rintro e w2 ⟨rfl, hb2⟩
  have HB2 : Hid (Below wr.heap.size wr w2) := hide (((Below.refl _ _).alloc (Nat.le_refl _) _).trans (hb2.mono (by simp)))
  have y0 := bsome hb2 (p := ⟨wr.heap.size, 0, none⟩) (v := .int .i64 x.d) (by simp [go_sem])
  have y1 := bsome hb2 (p := ⟨wr.heap.size, 1, none⟩) (v := .int .i64 x.e) (by simp [go_sem])
  have y2 := bsome hb2 (p := ⟨wr.heap.size, 2, none⟩) (v := .int .i64 x.h) (by simp [go_sem])
  have y3 := bsome hb2 (p := ⟨wr.heap.size, 3, none⟩) (v := .int .i64 x.n) (by simp [go_sem])
  have y4 := bsome hb2 (p := ⟨wr.heap.size, 4, none⟩) (v := .bool x.s) (by simp [go_sem])
  clear hb2 CA x0 x1 x2 x3 x4
  have hsz2 := HB2.out.size
  have hbx : wr.heap.size < w2.heap.size := World.block_lt_of_cell? _ _ y0
  have hbn : ¬ wr.heap.size = w2.heap.size := by omega
  go_wp2_with fail
  refine (CE.out _ (HB2.out.alloc HB2.out.size _)).mono ?_
  rintro e w3 ⟨rfl, hb3⟩
  have HB3 : Hid (Below wr.heap.size wr w3) := hide ((HB2.out.alloc HB2.out.size _).trans (hb3.mono (by simp; omega)))
  have hb3' : Below w2.heap.size w2 w3 := ((Below.refl _ _).alloc (Nat.le_refl _) _).trans (hb3.mono (by simp))
  have z0 := bsome hb3 (p := ⟨w2.heap.size, 0, none⟩) (v := .int .i64 y.c) (by simp [go_sem])
  have z1 := bsome hb3 (p := ⟨w2.heap.size, 1, none⟩) (v := .bool y.s) (by simp [go_sem])
  have z2 := bsome hb3 (p := ⟨w2.heap.size, 2, none⟩) (v := .int .i64 y.h) (by simp [go_sem])
  have z3 := bsome hb3 (p := ⟨w2.heap.size, 3, none⟩) (v := .int .i64 y.d) (by simp [go_sem])
  have y0 := bsome hb3' y0
  have y1 := bsome hb3' y1
  have y2 := bsome hb3' y2
  have y3 := bsome hb3' y3
  have y4 := bsome hb3' y4
  have hsz3 := hb3'.size
  have hbw : w2.heap.size < w3.heap.size := World.block_lt_of_cell? _ _ z0
  have hbm : ¬ w2.heap.size = w3.heap.size := by omega
  have hbv : wr.heap.size < w3.heap.size := by omega
  clear hb3 hb3' CE
  have hey := fun W => HY.out W
  have dh : (hs != hs) = false := by cases hs <;> rfl
  go_upto_block 2 with fail
  go_cut [] from 23 to 214 (fun wx => ∃ (L' : List En) (va' vb' : Value), Hid (L2 w1 wx p q va' vb' L' L') ∧ Hid (Fw L' (i + 1)))
  case first =>
    have hbW : Below w3.heap.size w3 (w3.alloc (.cells #[.int .i64 y.c, .bool y.s, .int .i64 y.h, .int .i64 y.d] 36)) := (Below.refl _ _).alloc (Nat.le_refl _) _
    have HW := hide (HL.out.keep (HB3.out.trans (hbW.mono HB3.out.size)))
    have y0 := bsome hbW y0
    have y1 := bsome hbW y1
    have y2 := bsome hbW y2
    have y3 := bsome hbW y3
    have y4 := bsome hbW y4
    have z2 := bsome hbW z2
    have hll : L.length ≤ 200 := Nat.le_trans HF.out.1 (by omega)
    clear hbW
    generalize w3.alloc (.cells #[.int .i64 y.c, .bool y.s, .int .i64 y.h, .int .i64 y.d] 36) = W at *
    have HLg := HL
    clear z0 z1 z3 hey dh HL HY
    have HNX : Hid (∀ b, wr.heap.size ≤ b → b ≠ p ∧ some b ≠ va.ownBlock) := hide (fun b hb => ⟨fun e => by have := HLg.out.g.plt; omega, fun e => by have := (HLg.out.g.o.lt b e.symm).2; omega⟩)
    have HNY : Hid (∀ b, wr.heap.size ≤ b → b ≠ q ∧ some b ≠ vb.ownBlock) := hide (fun b hb => ⟨fun e => by have := HLg.out.b.plt; omega, fun e => by have := (HLg.out.b.o.lt b e.symm).2; omega⟩)
    have hWx : wr.heap.size < W.heap.size := World.block_lt_of_cell? _ _ y0
    have hWz : w2.heap.size < W.heap.size := World.block_lt_of_cell? _ _ z2
    clear HLg
    have b0 : ((k : Int) == 0) = decide (k = 0) := by rw [Bool.eq_iff_iff]; simp
    go_upto_if 77 with fail
    go_cut [77] from 23 to 214 (fun v77 wx => v77 = .bool true ∧ wx = W)
    case first =>
      clear b0
      rcases (show k = 0 ∨ k = 1 ∨ k = 2 by omega) with rfl | rfl | rfl
      · go_wp2
        go_meet
        case rel => exact ⟨rfl, rfl⟩
      · go_wp2
        go_meet
        case rel => exact ⟨rfl, rfl⟩
      · go_wp2
        go_meet
        case rel => exact ⟨rfl, rfl⟩
    case rest =>
      obtain ⟨rfl, hwx⟩ := hcut
      subst wc
      clear b0
      have CB := hide (born_any HW.out.g x.n x.s x.h (by omega))
      by_cases hm : -1 ≤ x.h
      · rw [if_pos hm] at CB
        have c1 : decide (x.h < -1) = false := decide_eq_false (by omega)
        have hbo : Ld.born L x.n x.s x.h = L ++ [⟨x.n, x.s, x.h, 0⟩] := if_pos hm
        have HBO := hide hbo
        rw [hbo] at CB
        clear hbo
        go_wp2_with fail
        refine CB.out.mono ?_
        rintro e w5 ⟨rfl, v5, hg5, hc5⟩
        have HW5 := hide (HW.out.setg hg5 hc5)
        have hne : ∀ b, b < W.heap.size → b ≠ p → some b ≠ va.ownBlock → ∀ o v, W.cell? ⟨b, o, none⟩ = some v → w5.cell? ⟨b, o, none⟩ = some v := fun b hb h1 h2 o v hv => hc5.k.cell hv ⟨h1, h2⟩
        have hxb : wr.heap.size ≠ p ∧ some wr.heap.size ≠ va.ownBlock := HNX.out _ (Nat.le_refl _)
        have y0 := hne _ hWx hxb.1 hxb.2 _ _ y0
        have y2 := hne _ hWx hxb.1 hxb.2 _ _ y2
        have y3 := hne _ hWx hxb.1 hxb.2 _ _ y3
        have y4 := hne _ hWx hxb.1 hxb.2 _ _ y4
        have hs5 := hc5.k.size
        clear hg5 hc5 CB hne hxb
        obtain ⟨ab, cb, hvb⟩ := HW5.out.b.form
        subst hvb
        have qc := HW5.out.b.c
        have dl : (((L.length : Nat) : Int) != ((L.length : Nat) : Int)) = false := by simp
        have hw5 : wr.heap.size < w5.heap.size := World.block_lt_of_cell? _ _ y0
        have HB5 : Hid (Below w5.heap.size w5 (w5.alloc (.cells #[.int .i64 x.n, .bool x.s, .int .i64 x.h, .int .i64 0] 36)).drew) := hide (below_drewN ((Below.refl _ _).alloc (Nat.le_refl _) _) 1)
        have HW6 := hide (HW5.out.keep HB5.out)
        have qc6 := HW6.out.b.c
        have qt6 := HW6.out.b.t 0
        have HQN := hide HW6.out.b.ne
        have HQL := hide HW6.out.b.plt
        have HOW := hide HW6.out.b.o
        have HCN : Hid (∀ j u, [Value.int .i64 x.n, .bool x.s, .int .i64 x.h, .int .i64 0][j]? = some u → (w5.alloc (.cells #[.int .i64 x.n, .bool x.s, .int .i64 x.h, .int .i64 0] 36)).drew.cell? ((⟨w5.heap.size, 0, none⟩ : Addr).add j) = some u) := hide (fun j u hu => cell4new w5 _ _ _ _ _ j u hu)
        obtain ⟨i0', hi, hz0, hz1, hz2⟩ := info_parts Try.infoEn
        go_wp2
        have HGX : Hid (∀ (w7 : World), (w5.alloc (.cells #[.int .i64 x.n, .bool x.s, .int .i64 x.h, .int .i64 0] 36)).drew.grownBy w7 (Value.slice ab L.length cb).ownBlock → ∀ o v, w5.cell? ⟨wr.heap.size, o, none⟩ = some v → w7.cell? ⟨wr.heap.size, o, none⟩ = some v) := hide (fun w7 hg o v hv => (hg.cell_far ⟨wr.heap.size, o, none⟩ (by simp; omega) (HNY.out _ (Nat.le_refl _)).2).trans (bsome HB5.out hv))
        have hqx : ¬ wr.heap.size = q := (HNY.out _ (Nat.le_refl _)).1
        have v2 : (w5.alloc (.cells #[.int .i64 x.n, .bool x.s, .int .i64 x.h, .int .i64 0] 36)).drew.cell? ⟨wr.heap.size, 2, none⟩ = some (.int .i64 x.h) := bsome HB5.out y2
        have v3 : (w5.alloc (.cells #[.int .i64 x.n, .bool x.s, .int .i64 x.h, .int .i64 0] 36)).drew.cell? ⟨wr.heap.size, 3, none⟩ = some (.int .i64 x.n) := bsome HB5.out y3
        have v4 : (w5.alloc (.cells #[.int .i64 x.n, .bool x.s, .int .i64 x.h, .int .i64 0] 36)).drew.cell? ⟨wr.heap.size, 4, none⟩ = some (.bool x.s) := bsome HB5.out y4
        refine wp_region_noPanic ?_
        refine wp_region_held_drew (S := fun w' => w'.cell? ⟨wr.heap.size, 2, none⟩ = some (.int .i64 x.h) ∧ w'.cell? ⟨wr.heap.size, 3, none⟩ = some (.int .i64 x.n) ∧ w'.cell? ⟨wr.heap.size, 4, none⟩ = some (.bool x.s)) (by kernel_rfl) ⟨y2, y3, y4⟩ (fun hH => ?_)
        refine wpAnyH_take (i := 0) (oi := _) (v := ?_) rfl (by kernel_rfl) (by kernel_rfl) (by kernel_rfl) (fun _ _ _ h => h) (Or.inl ⟨by rfl, ?_⟩) (by assumption) ?_
        rotate_left
        focus (intro w' hSw; (try dsimp only at hSw); go_simp; (first | done | with_reducible rfl))
        try simp only [Act.put]
        refine wpAnyH_take (i := 1) (oi := _) (v := ?_) rfl (by kernel_rfl) (by kernel_rfl) (by kernel_rfl) (fun _ _ _ h => h) (Or.inl ⟨by rfl, ?_⟩) (by assumption) ?_
        rotate_left
        focus (intro w' hSw; (try dsimp only at hSw); go_simp; (first | done | with_reducible rfl))
        try simp only [Act.put]
        refine wpAnyH_take (i := 2) (oi := _) (v := ?_) rfl (by kernel_rfl) (by kernel_rfl) (by kernel_rfl) (fun _ _ _ h => h) (Or.inl ⟨by rfl, ?_⟩) (by assumption) ?_
        rotate_left
        focus (intro w' hSw; (try dsimp only at hSw); go_simp; (first | done | with_reducible rfl))
        try simp only [Act.put]
        refine wpAnyH_take (i := 3) (oi := _) (v := ?_) rfl (by kernel_rfl) (by kernel_rfl) (by kernel_rfl) (fun _ _ _ h => h) (Or.inl ⟨by rfl, ?_⟩) (by assumption) ?_
        rotate_left
        focus (intro w' hSw; (try dsimp only at hSw); go_simp; (first | done | with_reducible rfl))
        try simp only [Act.put]
        refine wpAnyH_take (i := 5) (oi := _) (v := ?_) rfl (by kernel_rfl) (by kernel_rfl) (by kernel_rfl) (fun _ _ _ h => h) (Or.inl ⟨by rfl, ?_⟩) (by assumption) ?_
        rotate_left
        focus (intro w' hSw; (try dsimp only at hSw); go_simp; (first | done | with_reducible rfl))
        try simp only [Act.put]
        refine wpAnyH_take (i := 6) (oi := _) (v := ?_) rfl (by kernel_rfl) (by kernel_rfl) (by kernel_rfl) (fun _ _ _ h => h) (Or.inl ⟨by rfl, ?_⟩) (by assumption) ?_
        rotate_left
        focus (intro w' hSw; (try dsimp only at hSw); go_simp; (first | done | with_reducible rfl))
        try simp only [Act.put]
        refine wpAnyH_take (i := 7) (oi := _) (v := ?_) rfl (by kernel_rfl) (by kernel_rfl) (by kernel_rfl) (fun _ _ _ h => h) (Or.inl ⟨by rfl, ?_⟩) (by assumption) ?_
        rotate_left
        focus (intro w' hSw; (try dsimp only at hSw); go_simp; (first | done | with_reducible rfl))
        try simp only [Act.put]
        refine wpAnyH_take (i := 8) (oi := _) (v := ?_) rfl (by kernel_rfl) (by kernel_rfl) (by kernel_rfl) (fun _ _ _ h => h) (Or.inl ⟨by rfl, ?_⟩) (by assumption) ?_
        rotate_left
        focus (intro w' hSw; (try dsimp only at hSw); go_simp; (first | done | with_reducible rfl))
        try simp only [Act.put]
        refine wpAnyH_take (i := 9) (oi := _) (v := ?_) rfl (by kernel_rfl) (by kernel_rfl) (by kernel_rfl) (fun _ _ _ h => h) (Or.inl ⟨by rfl, ?_⟩) (by assumption) ?_
        rotate_left
        focus (intro w' hSw; (try dsimp only at hSw); go_simp; (first | done | with_reducible rfl))
        try simp only [Act.put]
        refine wpAnyH_take (i := 10) (oi := _) (v := ?_) rfl (by kernel_rfl) (by kernel_rfl) (by kernel_rfl) (fun _ _ _ h => h) (Or.inl ⟨by rfl, ?_⟩) (by assumption) ?_
        rotate_left
        focus (intro w' hSw; (try dsimp only at hSw); go_simp; (first | done | with_reducible rfl))
        try simp only [Act.put]
        refine wpAnyH_take (i := 11) (oi := _) (v := ?_) rfl (by kernel_rfl) (by kernel_rfl) (by kernel_rfl) (fun _ _ _ h => h) (Or.inl ⟨by rfl, ?_⟩) (by assumption) ?_
        rotate_left
        focus (intro w' hSw; (try dsimp only at hSw); go_simp; (first | done | with_reducible rfl))
        try simp only [Act.put]
        refine wpAnyH_ready (rs := [4, 12]) (by kernel_rfl) (by simp) ?_
        refine AllReadyH.cons rfl (fun K hK => ?_) (AllReadyH.cons rfl (fun K hK => ?_) AllReadyH.nil)
        · go_simp
          refine hK.out _ _ ⟨y2, y3, y4⟩ (fun hH2 => ?_)
          clear hK K
          try simp only [Act.put]
          refine wpAnyH_ready (rs := [12]) (by kernel_rfl) (by simp) ?_
          refine AllReadyH.cons rfl (fun K hK => ?_) AllReadyH.nil
          go_simp
          refine hK.out _ _ ⟨v2, v3, v4⟩ (fun hH2 => ?_)
          clear hK K
          try simp only [Act.put]
          refine wpAnyH_ready (rs := [13]) (by kernel_rfl) (by simp) ?_
          refine AllReadyH.cons rfl (fun K hK => ?_) AllReadyH.nil
          (refine step_append_lies _ rfl _ _ 27 rfl w1.heap.size 36 i0' (.agg #[.int .i64 0, .bool false, .int .i64 0, .int .i64 0]) 4 32 Try.underlying27 hi hz0 hz1 hz2 rfl (by decide) (.slice ab L.length cb) L.length (ecl L) (by rfl) (by exact HOW.out) ⟨w5.heap.size, 0, none⟩ 1 1 [.int .i64 x.n, .bool x.s, .int .i64 x.h, .int .i64 0] (by rfl) rfl (by exact HCN.out) (by intro u hu; simp at hu; rcases hu with rfl | rfl | rfl | rfl <;> rfl) (by decide) (by unfold maxLen; omega) (by omega) (by have := HW6.out.bl.size; omega) _ rfl ?_; intro gn cap2 w7 hown hgrow hat hlt7; have c7 : w7.cell? ⟨q, 0, none⟩ = some (.slice ab L.length cb) := (hgrow.cell_far ⟨q, 0, none⟩ HQL.out (fun e => HQN.out e.symm)).trans qc6; have f7 : w7.frozen? ⟨q, 0, none⟩ = false := (hgrow.frozen_far ⟨q, 0, none⟩ HQL.out (fun e => HQN.out e.symm)).trans qt6; have HOWN := hide hown; have HGRO := hide hgrow; have HAT := hide hat; clear hown hat; have u2 := HGX.out w7 hgrow _ _ y2; have u3 := HGX.out w7 hgrow _ _ y3; have u4 := HGX.out w7 hgrow _ _ y4; clear hgrow)
          refine hK.out _ _ ⟨u2, u3, u4⟩ (fun hH2 => ?_)
          clear hK K
          try simp only [Act.put]
          refine wpAnyH_take (i := 14) (oi := _) (v := ?_) rfl (by kernel_rfl) (by kernel_rfl) (by kernel_rfl) (fun _ _ _ h => h) (Or.inl ⟨by rfl, ?_⟩) (by assumption) ?_
          rotate_left
          focus (intro w' hSw; (try dsimp only at hSw); go_simp; (first | done | with_reducible rfl))
          try simp only [Act.put]
          refine wpAnyH_take (i := 15) (oi := _) (v := ?_) rfl (by kernel_rfl) (by kernel_rfl) (by kernel_rfl) (fun _ _ _ h => h) (Or.inl ⟨by rfl, ?_⟩) (by assumption) ?_
          rotate_left
          focus (intro w' hSw; (try dsimp only at hSw); go_simp; (first | done | with_reducible rfl))
          try simp only [Act.put]
          refine wpAnyH_ready (rs := [16]) (by kernel_rfl) (by simp) ?_
          refine AllReadyH.cons rfl (fun K hK => ?_) AllReadyH.nil
          go_simp
          refine hK.out _ _ ⟨csetl hqx u2, csetl hqx u3, csetl hqx u4⟩ (fun hH2 => ?_)
          clear hK K
          try simp only [Act.put]
          refine wpAnyH_done (by kernel_rfl) (NoPanic.normal ?_) _
          have HK7 : Hid (Kx (fun b => some b ≠ (Value.slice ab L.length cb).ownBlock) (w5.alloc (.cells #[.int .i64 x.n, .bool x.s, .int .i64 x.h, .int .i64 0] 36)).drew w7) := hide ((Kx.refl _ _).grown HGRO.out (fun k hk => .inr (fun e => e hk.symm)))
          have HV7 : Hid ((Value.slice (some ⟨gn, 0, none⟩) (L.length + 1) cap2).ownBlock = (Value.slice ab L.length cb).ownBlock ∨ ∃ b, (Value.slice (some ⟨gn, 0, none⟩) (L.length + 1) cap2).ownBlock = some b ∧ (w5.alloc (.cells #[.int .i64 x.n, .bool x.s, .int .i64 x.h, .int .i64 0] 36)).drew.heap.size ≤ b) := hide (HAT.out.imp (fun e => e.symm) (fun e => ⟨gn, rfl, Nat.le_of_eq e.symm⟩))
          have HF7 := hide (HW6.out.setb (HW6.out.b.push (x := ⟨x.n, x.s, x.h, 0⟩) HOWN.out HK7.out HV7.out) ⟨(HK7.out.mono (fun b _ hb => hb.2)).set (p := ⟨q, 0, none⟩) (.inr (fun e => e.1 rfl)) _, HV7.out⟩)
          go_wp2
          go_meet
          case rel => exact ⟨_, _, _, HF7, hide (by have := HF.out.born x.n x.s x.h; rw [HBO.out] at this; exact this)⟩
        · go_simp
          refine hK.out _ _ ⟨v2, v3, v4⟩ (fun hH2 => ?_)
          clear hK K
          try simp only [Act.put]
          refine wpAnyH_ready (rs := [4]) (by kernel_rfl) (by simp) ?_
          refine AllReadyH.cons rfl (fun K hK => ?_) AllReadyH.nil
          go_simp
          refine hK.out _ _ ⟨v2, v3, v4⟩ (fun hH2 => ?_)
          clear hK K
          try simp only [Act.put]
          refine wpAnyH_ready (rs := [13]) (by kernel_rfl) (by simp) ?_
          refine AllReadyH.cons rfl (fun K hK => ?_) AllReadyH.nil
          (refine step_append_lies _ rfl _ _ 27 rfl w1.heap.size 36 i0' (.agg #[.int .i64 0, .bool false, .int .i64 0, .int .i64 0]) 4 32 Try.underlying27 hi hz0 hz1 hz2 rfl (by decide) (.slice ab L.length cb) L.length (ecl L) (by rfl) (by exact HOW.out) ⟨w5.heap.size, 0, none⟩ 1 1 [.int .i64 x.n, .bool x.s, .int .i64 x.h, .int .i64 0] (by rfl) rfl (by exact HCN.out) (by intro u hu; simp at hu; rcases hu with rfl | rfl | rfl | rfl <;> rfl) (by decide) (by unfold maxLen; omega) (by omega) (by have := HW6.out.bl.size; omega) _ rfl ?_; intro gn cap2 w7 hown hgrow hat hlt7; have c7 : w7.cell? ⟨q, 0, none⟩ = some (.slice ab L.length cb) := (hgrow.cell_far ⟨q, 0, none⟩ HQL.out (fun e => HQN.out e.symm)).trans qc6; have f7 : w7.frozen? ⟨q, 0, none⟩ = false := (hgrow.frozen_far ⟨q, 0, none⟩ HQL.out (fun e => HQN.out e.symm)).trans qt6; have HOWN := hide hown; have HGRO := hide hgrow; have HAT := hide hat; clear hown hat; have u2 := HGX.out w7 hgrow _ _ y2; have u3 := HGX.out w7 hgrow _ _ y3; have u4 := HGX.out w7 hgrow _ _ y4; clear hgrow)
          refine hK.out _ _ ⟨u2, u3, u4⟩ (fun hH2 => ?_)
          clear hK K
          try simp only [Act.put]
          refine wpAnyH_take (i := 14) (oi := _) (v := ?_) rfl (by kernel_rfl) (by kernel_rfl) (by kernel_rfl) (fun _ _ _ h => h) (Or.inl ⟨by rfl, ?_⟩) (by assumption) ?_
          rotate_left
          focus (intro w' hSw; (try dsimp only at hSw); go_simp; (first | done | with_reducible rfl))
          try simp only [Act.put]
          refine wpAnyH_take (i := 15) (oi := _) (v := ?_) rfl (by kernel_rfl) (by kernel_rfl) (by kernel_rfl) (fun _ _ _ h => h) (Or.inl ⟨by rfl, ?_⟩) (by assumption) ?_
          rotate_left
          focus (intro w' hSw; (try dsimp only at hSw); go_simp; (first | done | with_reducible rfl))
          try simp only [Act.put]
          refine wpAnyH_ready (rs := [16]) (by kernel_rfl) (by simp) ?_
          refine AllReadyH.cons rfl (fun K hK => ?_) AllReadyH.nil
          go_simp
          refine hK.out _ _ ⟨csetl hqx u2, csetl hqx u3, csetl hqx u4⟩ (fun hH2 => ?_)
          clear hK K
          try simp only [Act.put]
          refine wpAnyH_done (by kernel_rfl) (NoPanic.normal ?_) _
          have HK7 : Hid (Kx (fun b => some b ≠ (Value.slice ab L.length cb).ownBlock) (w5.alloc (.cells #[.int .i64 x.n, .bool x.s, .int .i64 x.h, .int .i64 0] 36)).drew w7) := hide ((Kx.refl _ _).grown HGRO.out (fun k hk => .inr (fun e => e hk.symm)))
          have HV7 : Hid ((Value.slice (some ⟨gn, 0, none⟩) (L.length + 1) cap2).ownBlock = (Value.slice ab L.length cb).ownBlock ∨ ∃ b, (Value.slice (some ⟨gn, 0, none⟩) (L.length + 1) cap2).ownBlock = some b ∧ (w5.alloc (.cells #[.int .i64 x.n, .bool x.s, .int .i64 x.h, .int .i64 0] 36)).drew.heap.size ≤ b) := hide (HAT.out.imp (fun e => e.symm) (fun e => ⟨gn, rfl, Nat.le_of_eq e.symm⟩))
          have HF7 := hide (HW6.out.setb (HW6.out.b.push (x := ⟨x.n, x.s, x.h, 0⟩) HOWN.out HK7.out HV7.out) ⟨(HK7.out.mono (fun b _ hb => hb.2)).set (p := ⟨q, 0, none⟩) (.inr (fun e => e.1 rfl)) _, HV7.out⟩)
          go_wp2
          go_meet
          case rel => exact ⟨_, _, _, HF7, hide (by have := HF.out.born x.n x.s x.h; rw [HBO.out] at this; exact this)⟩
      · rw [if_neg hm] at CB
        have c1 : decide (x.h < -1) = true := decide_eq_true (by omega)
        have hbo : Ld.born L x.n x.s x.h = L := if_neg hm
        rw [hbo] at CB
        clear hbo
        go_wp2_with fail
        refine CB.out.mono ?_
        rintro e w5 ⟨rfl, v5, hg5, hc5⟩
        have HW5 := hide (HW.out.setg hg5 hc5)
        have hxb : wr.heap.size ≠ p ∧ some wr.heap.size ≠ va.ownBlock := HNX.out _ (Nat.le_refl _)
        have y2 := hc5.k.cell y2 hxb
        clear hg5 hc5 CB hxb
        go_wp2
        go_meet
        case rel => exact ⟨_, _, _, HW5, hide HF.out.up⟩
  case rest =>
    clear hk3 hk
    clear HL HYE HY hey dh z0 z1 z2 z3 y0 y1 y2 y3 y4 HB3 HB2 hbm hbv hbw hbn hbx hsz2 hsz3 HF
    obtain ⟨L', va', vb', HL, HF⟩ := hcut
    have hll : L'.length ≤ 201 := Nat.le_trans HF.out.1 (by omega)
    have CA := hide (all_any HL.out.g (by omega))
    obtain ⟨ab, cb, hvb⟩ := HL.out.b.form
    go_wp2_with fail
    refine CA.out.mono ?_
    rintro e w5 ⟨u5, rfl, ho, hb⟩
    obtain ⟨au, cu, hu5⟩ := own_slicei ho
    have HL5 := hide (HL.out.keep hb)
    have CS := hide (sameEnds_any L' u5 vb' w5 (by omega) (own_enr ho) (own_enr HL5.out.b.o))
    have qc := HL5.out.b.c
    have HO := hide ho
    have HB := hide hb
    rw [hvb] at qc CS
    rw [hu5] at HO CS ⊢
    clear ho hb CA hu5
    go_wp2_with fail
    refine CS.out.mono ?_
    rintro e w6 ⟨rfl, hb6⟩
    have HO6 := hide (own_keepe HO.out (fun g hg => hb6.block g (HO.out.lt g hg).2))
    have HB6 := hide (btrans HB.out hb6)
    clear hb6 HO HB CS qc HL5
    go_wp2
    go_loopg [14] L'.length (fun gh jv wx => ∃ (j : Nat) (M' : List En), gh = L'.length - j ∧ j ≤ L'.length ∧ jv = .int .i64 j ∧ Hid (M'.length = L'.length) ∧ Hid (wx.ownsRow wc.heap.size 36 4 (.slice au L'.length cu) L'.length (ecl M')) ∧ Hid (Below wc.heap.size wc wx))
    case atStart => exact ⟨0, L', rfl, Nat.zero_le _, rfl, hide rfl, HO6, HB6⟩
    case round =>
      obtain ⟨j, M', rfl, hj, rfl, HM, HO, HB⟩ := hrel
      by_cases hjl : j < L'.length
      · have dj : decide ((j : Int) < (L'.length : Int)) = true := decide_eq_true (by omega)
        obtain ⟨xm, hxm⟩ : ∃ xm, M'[j]? = some xm := ⟨_, List.getElem?_eq_getElem (by rw [HM.out]; exact hjl)⟩
        obtain ⟨g, cg, hv, hgb, -⟩ := HO.out.form (by omega)
        obtain ⟨rfl, rfl⟩ : au = some ⟨g, 0, none⟩ ∧ cu = cg := by simpa using hv
        have hc3 : wr.cell? ⟨g, j * 4 + 3, none⟩ = some (.int .i64 xm.d) := by rw [HO.out.cellAt _ (by omega)]; exact (ecl_at M' j xm hxm).2.2.2
        have hf3 := HO.out.frozenAt (j * 4 + 3)
        have j0 : (0 : Int) ≤ (j : Int) := by omega
        have j1 : (j : Int) < (L'.length : Int) := by omega
        have HO2 : Hid ((wr.setCell ⟨g, j * 4 + 3, none⟩ (.int .i64 99)).ownsRow wc.heap.size 36 4 (.slice (some ⟨g, 0, none⟩) L'.length cu) L'.length (ecl (M'.set j { xm with d := 99 }))) := hide (by rw [← ecl_setd M' j xm 99 hxm]; exact (HO.out.stored (j * 4 + 3) (.int .i64 99)).1)
        have HB2 : Hid (Below wc.heap.size wc (wr.setCell ⟨g, j * 4 + 3, none⟩ (.int .i64 99))) := hide (bset HB.out (p := ⟨g, j * 4 + 3, none⟩) hgb _)
        clear hv hxm HO6 HB6
        go_wp2
        go_roundg (L'.length - (j + 1))
        case measure => omega
        case rel => exact ⟨j + 1, M'.set j { xm with d := 99 }, rfl, by omega, by go_num, hide (by rw [List.length_set]; exact HM.out), HO2, HB2⟩
      · obtain rfl : j = L'.length := by omega
        have dj : decide ((L'.length : Int) < (L'.length : Int)) = false := by simp
        have HLE := hide (HL.out.keep HB.out)
        clear HO6 HB6 HL
        go_wp2
        refine ⟨li_mk _ _ rfl ⟨i + 1, L', va', vb', by omega, by show _ = _; go_num, HLE, HF⟩, ?_⟩
        simp [Lmu, intOf, hu]
        omega
end Go.Proofs.Ytlhjbgdmjebaeaa

import Derived.Test.YtbepaimbbclejaaOnD
/- The law ChansOnce: the first loop: what is done, step by step. -/
namespace Go.Proofs.Ytbepaimbbclejaa
open Go.RowKit

theorem OS.done {w1 X : World} {q i : Nat} {s : Cst} (h : OS w1 X q i s) (hi : i < 1000) (d e t n : Int) (g : Bool) (hm : Bk.dig d < 8 ∨ (Ld.has s.e e = true ∧ 0 ≤ (Ld.at s.e e).h)) :
    Calls Try.prog 9 #[.pointer (some ⟨q, 0, none⟩), .pointer (some ⟨X.heap.size, 0, none⟩), .agg #[.int .i64 d, .int .i64 e, .int .i64 t, .int .i64 n, .bool g]] (X.alloc (.cells #[.slice none 0 0, .slice none 0 0, .slice none 0 0, .slice none 0 0] 32)) fun r w' => ∃ u, r = .returned (.bool u) ∧ OS w1 w' q (i + 1) (Bk.op (Bk.dig d) e t n g s) := by
  obtain ⟨F, h1, h2, h3, h4⟩ := h
  have hbx : Below X.heap.size X (X.alloc (.cells #[.slice none 0 0, .slice none 0 0, .slice none 0 0, .slice none 0 0] 32)) := (Below.refl _ _).alloc (Nat.le_refl _) _
  have hs1 := h4.size
  have hs2 := hbx.size
  refine (done_any (h1.keep (Kx.of_below hbx)) (BX.new X hs1) (fun x hx e => by have := (h1.lt x hx).2; omega) h2 Wf.c0 (by omega) (by omega) d e t n g).mono ?_
  rintro r w' ⟨u, rfl, -, G1, G2, g1, g2, g3, g4, -, -⟩
  refine ⟨u, rfl, G1, g1, h2.op hi _ e t n g, h3.op h2 _ e t n g hm, ?_⟩
  have hb := (h4.trans (hbx.mono hs1))
  exact ⟨g4.os.trans hb.os, g4.tape.trans hb.tape, g4.output.trans hb.output, Nat.le_trans hb.size g4.size, fun k hk => (g4.block k (by omega) ⟨fun e => by have := (h1.lt k e).1; omega, fun e => by have : k = X.heap.size := e; omega⟩).trans (hb.block k hk)⟩
def ORel (w1 : World) (n q : Nat) (v : Value) (wr : World) : Prop := ∃ (i : Nat) (s : Cst), i ≤ n ∧ v = .int .i64 i ∧ Hid (OS w1 wr q i s)
def OI (w1 : World) (av : Option Addr) (n cv q : Nat) (a : Act) (wr : World) : Prop := ∃ u : Nat → Value, ORel w1 n q (u 4) wr ∧ a = oframe av n cv q u
def Omu (n : Nat) (a : Act) (_ : World) : Nat := n - (intOf (a.tmps.getD 4 undef)).toNat
theorem oi_mk {w1 : World} {av : Option Addr} {n cv q : Nat} (a : Act) (wr : World) (ha : a = oframe av n cv q (fun k => a.tmps.getD k undef)) (hrel : ORel w1 n q (a.tmps.getD 4 undef) wr) : OI w1 av n cv q a wr := ⟨_, hrel, ha⟩
set_option maxRecDepth 100000
set_option maxHeartbeats 4000000
theorem o_round1 (w1 wr : World) (u : Nat → Value) (gP oP n cv q i : Nat) (s : Cst) (P0 : List PanicEntry → Act → World → Prop) (Q1 : Exit → Act → World → Prop) (hlt : i < n) (hn : n ≤ 200) (hu : u 4 = .int .i64 i) (d e t nn : Int) (g : Bool)
    (X0 : Hid (w1.cell? ⟨gP, oP + i * 5, none⟩ = some (.int .i64 d))) (X1 : Hid (w1.cell? ⟨gP, oP + i * 5 + 1, none⟩ = some (.int .i64 e))) (X2 : Hid (w1.cell? ⟨gP, oP + i * 5 + 2, none⟩ = some (.int .i64 t))) (X3 : Hid (w1.cell? ⟨gP, oP + i * 5 + 3, none⟩ = some (.int .i64 nn))) (X4 : Hid (w1.cell? ⟨gP, oP + i * 5 + 4, none⟩ = some (.bool g)))
    (HO : Hid (OS w1 wr q i s)) :
    Code.wp Try.prog (obody 0) (Exit.then (fun a' w'' => OI w1 (some ⟨gP, oP, none⟩) n cv q a' w'' ∧ Omu n a' w'' < Omu n (oframe (some ⟨gP, oP, none⟩) n cv q u) wr) (qmix P0 Q1)) (oframe (some ⟨gP, oP, none⟩) n cv q u) wr := by
  obtain ⟨F, -, -, -, hbw⟩ := HO.out
  have x0 := bsome hbw X0.out
  have x1 := bsome hbw X1.out
  have x2 := bsome hbw X2.out
  have x3 := bsome hbw X3.out
  have x4 := bsome hbw X4.out
  have d1 : decide ((i : Int) < (n : Int)) = true := by simp; omega
  have i0 : (0 : Int) ≤ (i : Int) := by omega
  have i1 : (i : Int) < (n : Int) := by omega
  clear hbw X0 X1 X2 X3 X4
  obtain ⟨b5, hb5⟩ : ∃ b5, wr.heap.size = b5 := ⟨_, rfl⟩
  obtain ⟨W, hW⟩ : ∃ W, wr.alloc (.cells #[.int .i64 d, .int .i64 e, .int .i64 t, .int .i64 nn, .bool g] 35) = W := ⟨_, rfl⟩
  have HO5 := hide (HO.out.keep ((Below.refl _ _).alloc (Nat.le_refl _) (.cells #[.int .i64 d, .int .i64 e, .int .i64 t, .int .i64 nn, .bool g] 35)))
  have HY : Hid ((W.cell? ⟨b5, 0, none⟩ = some (.int .i64 d) ∧ W.cell? ⟨b5, 1, none⟩ = some (.int .i64 e) ∧ W.cell? ⟨b5, 2, none⟩ = some (.int .i64 t)) ∧ W.cell? ⟨b5, 3, none⟩ = some (.int .i64 nn) ∧ W.cell? ⟨b5, 4, none⟩ = some (.bool g)) := hide (by rw [← hb5, ← hW]; simp [go_sem])
  rw [hW] at HO5
  have HW := hide (And.intro hb5 hW)
  clear hb5 hW
  obtain ⟨y, hy⟩ : ∃ y, Ld.at s.e e = y := ⟨_, rfl⟩
  obtain ⟨hs, hhs⟩ : ∃ b, Ld.has s.e e = b := ⟨_, rfl⟩
  obtain ⟨yc, ys, yh, yd⟩ := y
  obtain ⟨pl, ve, yq, hlg⟩ := HO5.out.led
  have HS : Hid (∀ X, Below W.heap.size W X → X.cell? ⟨q, 0, none⟩ = some (.pointer (some ⟨pl, 0, none⟩)) ∧ X.cell? ⟨b5, 1, none⟩ = some (.int .i64 e)) := hide (fun X hX => ⟨bsome hX yq, bsome hX HY.out.1.2.1⟩)
  have HE1 : Hid (∀ X, Below W.heap.size W X → Calls Try.prog 15 #[.pointer (some ⟨pl, 0, none⟩), .int .i64 e] X fun r w' => ∃ u, r = .returned u ∧ (u = .tuple #[.agg #[.int .i64 yc, .bool ys, .int .i64 yh, .int .i64 yd], .bool hs] ∧ Below X.heap.size X w')) := hide (fun X hX => (end_any (hlg.keep hX) e).mono (fun r w' h => ⟨_, h.1, by rw [hy, hhs], h.2⟩))
  have HA : Hid (∀ X (o : Obj), Below W.heap.size W X → (X.alloc o).cell? ⟨q, 0, none⟩ = some (.pointer (some ⟨pl, 0, none⟩)) ∧ (X.alloc o).cell? ⟨b5, 1, none⟩ = some (.int .i64 e)) := hide (fun X o hX => HS.out _ (hX.alloc hX.size o))
  have y1 := HY.out.1.2.1
  have hqw : q < W.heap.size := World.block_lt_of_cell? _ _ yq
  have nn1 := World.new_ne W ⟨q, 0, none⟩ yq
  have nn2 := World.new_ne W ⟨b5, 1, none⟩ y1
  have HD : Hid (∀ o : Obj, (W.alloc o).drew.cell? ⟨q, 0, none⟩ = some (.pointer (some ⟨pl, 0, none⟩)) ∧ (W.alloc o).drew.cell? ⟨b5, 1, none⟩ = some (.int .i64 e)) := hide (fun o => HS.out _ (below_drewN ((Below.refl _ _).alloc (Nat.le_refl _) o) 1))
  have HE2 : Hid (∀ o : Obj, Calls Try.prog 15 #[.pointer (some ⟨pl, 0, none⟩), .int .i64 e] (W.alloc o).drew fun r w' => ∃ u, r = .returned u ∧ (u = .tuple #[.agg #[.int .i64 yc, .bool ys, .int .i64 yh, .int .i64 yd], .bool hs] ∧ Below (W.alloc o).drew.heap.size (W.alloc o).drew w')) := hide (fun o => HE1.out _ (below_drewN ((Below.refl _ _).alloc (Nat.le_refl _) o) 1))
  have HN : Hid (∀ X, Below (W.alloc (.cells #[.int .i64 0, .bool false, .int .i64 0, .int .i64 0] 48)).drew.heap.size (W.alloc (.cells #[.int .i64 0, .bool false, .int .i64 0, .int .i64 0] 48)).drew X → (X.cell? ⟨W.heap.size, 0, none⟩ = some (.int .i64 0) ∧ X.cell? ⟨W.heap.size, 1, none⟩ = some (.bool false) ∧ X.cell? ⟨W.heap.size, 2, none⟩ = some (.int .i64 0) ∧ X.cell? ⟨W.heap.size, 3, none⟩ = some (.int .i64 0)) ∧ (X.frozen? ⟨W.heap.size, 0, none⟩ = false ∧ X.frozen? ⟨W.heap.size, 1, none⟩ = false ∧ X.frozen? ⟨W.heap.size, 2, none⟩ = false ∧ X.frozen? ⟨W.heap.size, 3, none⟩ = false)) := hide (fun X hX => new4_any W _ _ _ _ _ X hX)
  have HT : Hid (∀ X (u0 u1 u2 u3 : Value), Below W.heap.size W X → ((((X.setCell ⟨W.heap.size, 0, none⟩ u0).setCell ⟨W.heap.size, 1, none⟩ u1).setCell ⟨W.heap.size, 2, none⟩ u2).setCell ⟨W.heap.size, 3, none⟩ u3).cell? ⟨q, 0, none⟩ = some (.pointer (some ⟨pl, 0, none⟩)) ∧ ((((X.setCell ⟨W.heap.size, 0, none⟩ u0).setCell ⟨W.heap.size, 1, none⟩ u1).setCell ⟨W.heap.size, 2, none⟩ u2).setCell ⟨W.heap.size, 3, none⟩ u3).cell? ⟨b5, 1, none⟩ = some (.int .i64 e)) := hide (fun X u0 u1 u2 u3 hX => HS.out _ (bset4 hX (Nat.le_refl _) u0 u1 u2 u3))
  have kc : Hid (Below W.heap.size W W.drew) := hide (below_drewN (Below.refl _ _) 1)
  obtain ⟨hdl, hdq⟩ := Bk.dig_lt d
  have CD : Hid (∀ X, Below W.heap.size W X → (Bk.dig d < 8 ∨ (hs = true ∧ 0 ≤ yh)) → Calls Try.prog 9 #[.pointer (some ⟨q, 0, none⟩), .pointer (some ⟨X.heap.size, 0, none⟩), .agg #[.int .i64 d, .int .i64 e, .int .i64 t, .int .i64 nn, .bool g]] (X.alloc (.cells #[.slice none 0 0, .slice none 0 0, .slice none 0 0, .slice none 0 0] 32)) fun r w' => ∃ u, r = .returned (.bool u) ∧ OS w1 w' q (i + 1) (Bk.op (Bk.dig d) e t nn g s)) := hide (fun X hX hm => (HO5.out.keep hX).done (by omega) d e t nn g (by rw [hhs, hy]; exact hm))
  have HK : Hid (∀ X, Below W.heap.size W X → OS w1 X q (i + 1) s) := hide (fun X hX => by
    obtain ⟨F, a1, a2, a3, a4⟩ := HO5.out.keep hX
    exact ⟨F, a1, a2.mono (by omega), a3, a4⟩)
  generalize Bk.dig d = m at *
  clear HO HO5 hy hhs hlg
  conv => arg 2; whnf
  unfold oframe
  go_upto_region 10 with fail
  rw [HW.out.1, HW.out.2]
  clear x0 x1 x2 x3 x4 HW
  go_cut [6, 7] from 34 to 43 (fun v6 v7 wx => ∃ b6, v6 = .pointer (some ⟨b6, 0, none⟩) ∧ v7 = .bool hs ∧ wx.cell? ⟨b6, 2, none⟩ = some (.int .i64 yh) ∧ Below W.heap.size W wx)
  case first =>
    clear HY HK CD hdl hdq
    go_region_held3 (fun w' => w'.cell? ⟨q, 0, none⟩ = some (.pointer (some ⟨pl, 0, none⟩)) ∧ w'.cell? ⟨b5, 1, none⟩ = some (.int .i64 e)) ((first | (with_reducible exact HS.out _ kc.out) | (with_reducible exact HD.out _) | (with_reducible exact HA.out _ _ kc.out) | (with_reducible exact HT.out _ _ _ _ _ kc.out) | go_keep)) ((first
      | (refine step_call_w (by rfl) 15 #[.pointer (some ⟨pl, 0, none⟩), .int .i64 e] ?_ (HE1.out _ kc.out) ?_; (focus (go_simp; done)); rintro v7 w7 ⟨rfl, hb7⟩; have kc := hide (kc.out.trans (hb7.mono kc.out.size)); clear hb7)
      | (refine step_call_w (by rfl) 15 #[.pointer (some ⟨pl, 0, none⟩), .int .i64 e] ?_ (HE2.out _) ?_; (focus (go_simp; done)); rintro v7 w7 ⟨rfl, hb7⟩; obtain ⟨⟨za0, za1, za2, za3⟩, zb0, zb1, zb2, zb3⟩ := HN.out _ hb7; have kc := hide ((below_drewN ((Below.refl W.heap.size W).alloc (Nat.le_refl _) _) 1).trans (hb7.mono (below_drewN ((Below.refl W.heap.size W).alloc (Nat.le_refl _) _) 1).size)); clear hb7)))
    · go_wp2
      go_meet
      case rel => exact ⟨_, rfl, rfl, by simp [go_sem], kc.out.alloc kc.out.size _⟩
    · go_wp2
      go_meet
      case rel => exact ⟨_, rfl, rfl, by simp [go_sem, za2], bset4 kc.out (Nat.le_refl _) (.int .i64 yc) (.bool ys) (.int .i64 yh) (.int .i64 yd)⟩
  case rest =>
    obtain ⟨b6, rfl, rfl, z2, hbc⟩ := hcut
    obtain ⟨⟨r0, r1, r2⟩, r3, r4⟩ := HY.out
    have r0 := bsome hbc r0
    have r1 := bsome hbc r1
    have r2 := bsome hbc r2
    have r3 := bsome hbc r3
    have r4 := bsome hbc r4
    have HBC := hide hbc
    have hb5c : b5 < wc.heap.size := World.block_lt_of_cell? _ _ r0
    have hb5n : ¬ b5 = wc.heap.size := by omega
    clear HS HE1 HA HD HE2 HN HT kc nn1 nn2 y1 yq HY hbc
    by_cases h8 : m < 8
    · have d8 : decide ((8 : Int) ≤ (m : Int)) = false := by simp; omega
      go_wp2_with fail
      refine (CD.out _ HBC.out (.inl h8)).mono ?_
      rintro r w9 ⟨u9, rfl, ho⟩
      have HO9 := hide ho
      clear ho
      go_wp2
      refine ⟨oi_mk _ _ rfl ⟨i + 1, _, by omega, by show _ = _; go_num, HO9⟩, ?_⟩
      simp [Omu, intOf, hu]
      omega
    · have d8 : decide ((8 : Int) ≤ (m : Int)) = true := by simp; omega
      cases hs with
      | false =>
        have HO9 := hide (HK.out _ HBC.out)
        clear CD HK
        go_wp2
        refine ⟨oi_mk _ _ rfl ⟨i + 1, _, by omega, by show _ = _; go_num, HO9⟩, ?_⟩
        simp [Omu, intOf, hu]
        omega
      | true =>
        by_cases h0 : 0 ≤ yh
        · have d0 : decide (yh < 0) = false := by simp; omega
          go_wp2_with fail
          refine (CD.out _ HBC.out (.inr ⟨by simp, h0⟩)).mono ?_
          rintro r w9 ⟨u9, rfl, ho⟩
          have HO9 := hide ho
          clear ho
          go_wp2
          refine ⟨oi_mk _ _ rfl ⟨i + 1, _, by omega, by show _ = _; go_num, HO9⟩, ?_⟩
          simp [Omu, intOf, hu]
          omega
        · have d0 : decide (yh < 0) = true := by simp; omega
          have HO9 := hide (HK.out _ HBC.out)
          clear CD HK
          go_wp2
          refine ⟨oi_mk _ _ rfl ⟨i + 1, _, by omega, by show _ = _; go_num, HO9⟩, ?_⟩
          simp [Omu, intOf]
          omega
theorem o_loop1 (w1 w : World) (a : Act) (av : Option Addr) (cv q : Nat) (S : List Cp) (hS : CpR w1 (.slice av S.length cv) S) (hn : S.length ≤ 200) (P0 : List PanicEntry → Act → World → Prop) (Q1 : Exit → Act → World → Prop)
    (hexit : ∀ (a' : Act) w', a' = oframe av S.length cv q (fun k => a'.tmps.getD k undef) → (∃ s, Hid (OS w1 w' q S.length s)) → Q1 (.exit 0) a' w') (ha : a = oframe av S.length cv q (fun k => a.tmps.getD k undef)) (hrel : ORel w1 S.length q (a.tmps.getD 4 undef) w) :
    Code.wp Try.prog (Code.loop (obody 0)) (qmix P0 Q1) a w := by
  refine wp_loop (c := obody 0) (OI w1 av S.length cv q) (Omu S.length) (oi_mk a w ha hrel) (fun a' w' hI => ?_)
  obtain ⟨u, ⟨i, s, hi, hu, HO⟩, rfl⟩ := hI
  by_cases hlt : i < S.length
  · obtain ⟨x, hx⟩ : ∃ x, S[i]? = some x := ⟨_, List.getElem?_eq_getElem hlt⟩
    obtain ⟨aP, cP, eP, hP⟩ := hS
    obtain ⟨rfl, rfl⟩ : av = aP ∧ cv = cP := by simpa using eP
    obtain ⟨gP, oP, rfl, qP⟩ := hP (fun e => by rw [e] at hlt; simp at hlt)
    obtain ⟨c0, c1, c2, c3, c4⟩ := qP i _ hx
    exact o_round1 w1 w' u gP oP _ cv q i s P0 Q1 hlt hn hu x.d x.e x.t x.n x.g (hide c0) (hide c1) (hide c2) (hide c3) (hide c4) HO
  · obtain rfl : i = S.length := by omega
    have d1 : decide ((S.length : Int) < (S.length : Int)) = false := by simp
    have HX := hide hexit
    clear hexit hS
    conv => arg 2; whnf
    unfold oframe
    go_wp2
    exact HX.out _ _ rfl ⟨s, HO⟩
end Go.Proofs.Ytbepaimbbclejaa

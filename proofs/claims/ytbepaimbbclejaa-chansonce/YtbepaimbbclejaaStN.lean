import Derived.Test.YtbepaimbbclejaaStM
/- Package chans: Take of something. -/
namespace Go.Proofs.Ytbepaimbbclejaa
open Go.RowKit

set_option maxRecDepth 100000
set_option maxHeartbeats 1000000
section
variable {B : Nat} {w w' : World} {q pl : Nat} {ve vc : Value} {P : List Pl} {E : List En} {S N : List Int} {I : List (List (Int × Int))} {G : List Bool}
theorem set_same {α : Type} {l : List α} {c : Nat} {x : α} (h : l[c]? = some x) : l.set c x = l := by
  refine List.ext_getElem? (fun i => ?_)
  by_cases e : c = i
  · subst e; rw [List.getElem?_set_self (List.getElem?_eq_some_iff.1 h).1, h]
  · rw [List.getElem?_set_ne e]
/-- A channel's ring was changed. -/
theorem ST.ring (h : ST B w q pl ve vc P E S N I G) {k : Nat} {p : Pl} {s n : Int} {M : List (Int × Int)} {g : Bool} (hp : P[k]? = some p) (hs : S[k]? = some s) (hn : N[k]? = some n) (hg : G[k]? = some g) (hc : CH B w p s n M g) (hB : B ≤ w.heap.size) {cv' : Value} {M' : List (Int × Int)} (hr : RJ w' p.2.1 cv' s.toNat M') (hk : Kx (fun b => b ≠ p.2.1 ∧ some b ≠ p.2.2.ownBlock) w w') (hv : cv'.ownBlock = none ∨ cv'.ownBlock = p.2.2.ownBlock ∨ ∃ b, cv'.ownBlock = some b ∧ w.heap.size ≤ b) :
    ST B w' q pl ve vc (P.set k (p.1, p.2.1, cv')) E S N (I.set k M') G ∧ BC w w' (sob q pl ve vc P) (sob q pl ve vc (P.set k (p.1, p.2.1, cv'))) := by
  obtain ⟨e1, e2, e3⟩ := sob_at (q := q) (pl := pl) (ve := ve) (vc := vc) hp
  have n1 : p.1 ≠ p.2.1 ∧ some p.1 ≠ p.2.2.ownBlock := ⟨fun e => absurd (h.dj _ _ p.1 e1 (by rw [e]; exact e2)) (by omega), fun e => absurd (h.dj _ _ p.1 e1 (by rw [e3, ← e])) (by omega)⟩
  have h1 := h.chan (n' := n) (g' := g) hp hs (hk.mono (fun b _ hb => hb.2)) (v' := cv') (M' := M') ⟨hk.cell hc.c0 n1, hk.cell hc.c1 n1, hk.cell hc.c2 n1, fun j => (hk.frozen (p := ⟨p.1, j, none⟩) (World.block_lt_of_cell? _ ⟨p.1, 0, none⟩ hc.c0) n1).trans (hc.t j), hr, hc.s0, hc.lo.1, hc.lo.2.1, fun b hb => by
    rcases hv with e | e | ⟨b', e, hb'⟩
    · rw [e] at hb; cases hb
    · rw [e] at hb; exact hc.lo.2.2 b hb
    · rw [e] at hb; cases hb; omega⟩ hv
  rw [set_same hn, set_same hg] at h1
  exact h1
theorem csTake_some (h : ST B w q pl ve vc P E S N I G) (o : BOk E S I G) (hN : SN E N) (hB : B ≤ w.heap.size) (e tk : Int) (h1 : Bk.there E e false = true) (ht : 0 ≤ tk) (n1 n2 : Int) (M' : List (Int × Int)) (hM : I[(Ld.at E e).c.toNat]? = some ((n1, n2) :: M')) : Calls Try.prog 19 #[.pointer (some ⟨q, 0, none⟩), .int .i64 e, .int .i64 tk] w fun r w' => r = .returned (.tuple #[.agg #[.int .i64 n1, .int .i64 n2], .int .i64 1]) ∧ ∃ P', ST B w' q pl ve vc P' (Ld.move E n2 tk) S N (I.set (Ld.at E e).c.toNat M') G ∧ BC w w' (sob q pl ve vc P) (sob q pl ve vc P') := by
  have hb0 : Below w.heap.size w (w.alloc (.cells #[.int .i64 0, .int .i64 0] 59)) := (Below.refl _ _).alloc (Nat.le_refl _) _
  have HZ : Hid (∀ X, Kx (fun b => b = w.heap.size) (w.alloc (.cells #[.int .i64 0, .int .i64 0] 59)) X → X.cell? ⟨w.heap.size, 0, none⟩ = some (.int .i64 0) ∧ X.cell? ⟨w.heap.size, 1, none⟩ = some (.int .i64 0) ∧ X.frozen? ⟨w.heap.size, 0, none⟩ = false ∧ X.frozen? ⟨w.heap.size, 1, none⟩ = false) := hide (fun X hX => ⟨hX.cell (by simp [go_sem]) rfl, hX.cell (by simp [go_sem]) rfl, (hX.frozen (p := ⟨w.heap.size, 0, none⟩) (by simp) rfl).trans (by simp [go_sem]), (hX.frozen (p := ⟨w.heap.size, 1, none⟩) (by simp) rfl).trans (by simp [go_sem])⟩)
  have h2 : Bk.there E e true = false := by
    obtain ⟨k, x, -, -, ha, hs, -, -⟩ := Bk.there_some h1
    unfold Bk.there
    rw [ha, hs]
    simp
  obtain ⟨c, p, sl, M, g, hc, hp, hS, hnn, hI, hG, hch, -⟩ := h.of o hN h1
  rw [hc, Int.toNat_natCast, hI] at hM
  cases hM
  rw [hc, Int.toNat_natCast]
  have HS := hide (recvFr_yes (h.keep hb0) e h1 hc hp)
  have HR : Hid (∀ X, Below w.heap.size w X → Calls Try.prog 24 #[.pointer (some ⟨p.1, 0, none⟩)] X fun e w' => e = .returned (.bool false) ∧ w' = X) := hide (fun X hX => by
    have := stopR_any (hch.keep (X := fun _ => True) (Kx.of_below hX) trivial trivial (fun _ _ => trivial))
    simpa using this)
  have HT := hide (isTask_any tk)
  rw [decide_eq_true ht] at HT
  have HC : Hid (∀ X, Below w.heap.size w X → Calls Try.prog 46 #[.pointer (some ⟨p.2.1, 0, none⟩)] X fun e w' => e = .returned (.tuple #[.agg #[.int .i64 n1, .int .i64 n2], .bool true]) ∧ RJ w' p.2.1 p.2.2 sl.toNat M' ∧ Kx (fun b => b ≠ p.2.1 ∧ some b ≠ p.2.2.ownBlock) X w') := hide (fun X hX => takej_some (hch.keep (X := fun _ => True) (Kx.of_below hX) trivial trivial (fun _ _ => trivial)).r)
  have HP : Hid (∀ X, Below w.heap.size w X → X.cell? ⟨p.1, 0, none⟩ = some (.pointer (some ⟨p.2.1, 0, none⟩))) := hide (fun X hX => bsome hX hch.c0)
  have HX : Hid (∀ X X', Below w.heap.size w X → RJ X' p.2.1 p.2.2 sl.toNat M' → Kx (fun b => b ≠ p.2.1 ∧ some b ≠ p.2.2.ownBlock) X X' → ST B X' q pl ve vc P E S N (I.set c M') G ∧ BC w X' (sob q pl ve vc P) (sob q pl ve vc P)) := hide (fun X X' hX hr hk => by
    have := (h.keep hX).ring hp hS hnn hG (hch.keep (X := fun _ => True) (Kx.of_below hX) trivial trivial (fun _ _ => trivial)) (Nat.le_trans hB hX.size) hr hk (.inr (.inl rfl))
    rw [set_same (x := (p.1, p.2.1, p.2.2)) hp] at this
    exact ⟨this.1, (BC.of_below hX _).trans this.2⟩)
  have HNB : Hid (w.heap.size ≠ p.2.1 ∧ some w.heap.size ≠ p.2.2.ownBlock) := hide (by
    have := hch.r.lt
    exact ⟨by omega, fun e => by have := (this.2 w.heap.size e.symm).1; omega⟩)
  have HMv : Hid (∀ X, LG B X pl ve E → Calls Try.prog 44 #[.pointer (some ⟨pl, 0, none⟩), .int .i64 n2, .int .i64 tk] X fun r w' => ∃ u, r = .returned u ∧ (u = .bool (Ld.may E n2 tk) ∧ LG B w' pl ve (Ld.move E n2 tk) ∧ LC X w' pl ve ve)) := hide (fun X hX => (move_any hX n2 tk).mono (fun e w' h => ⟨_, h.1, rfl, h.2⟩))
  have hwp : w.heap.size ≠ pl ∧ some w.heap.size ≠ ve.ownBlock := ⟨fun e => by have := h.lg.plt; omega, fun e => by have := (h.lg.o.lt w.heap.size e.symm).2; omega⟩
  have hqn : q ≠ w.heap.size := fun e => by have := h.ql; omega
  have hqp : q ≠ pl ∧ some q ≠ ve.ownBlock := ⟨fun e => absurd (h.dj 0 1 q rfl (by show some (some pl) = _; rw [e])) (by decide), fun e => absurd (h.dj 0 2 q rfl (by show some ve.ownBlock = _; rw [← e])) (by decide)⟩
  have HNs := hide (fun j => h.new (Nat.le_refl w.heap.size) j)
  clear h o hN h1 h2 hc hp hS hnn hI hG hch ht
  go_enter Try.func19, Try.ntmps19
  go_wp2_with fail
  refine HS.out.mono ?_
  rintro e w1 ⟨rfl, hb⟩
  have HB := hide (btrans hb0 hb)
  have p1 := HP.out _ HB.out
  have HBz := hide hb
  clear hb hb0
  go_wp2_with fail
  refine (HR.out _ HB.out).mono ?_
  rintro e w2 ⟨rfl, rfl⟩
  go_wp2_with fail
  refine (HT.out _).mono ?_
  rintro e w3 ⟨rfl, rfl⟩
  go_wp2_with fail
  refine (HC.out _ HB.out).mono ?_
  rintro e w4 ⟨rfl, hr4, hk4⟩
  obtain ⟨z0, z1, z2, z3⟩ := HZ.out _ ((Kx.of_below HBz.out).step hk4 (fun b _ hb => by rw [hb]; exact HNB.out))
  have H4 := hide (HX.out _ _ HB.out hr4 hk4)
  have hw4 : w.heap.size ≤ w4.heap.size := Nat.le_trans HB.out.size hk4.size
  have y1 := set_two z0 z1 (.int .i64 n1) (.int .i64 n2)
  have kz : Kx (fun b => b ≠ w.heap.size) w4 ((w4.setCell ⟨w.heap.size, 0, none⟩ (.int .i64 n1)).setCell ⟨w.heap.size, 1, none⟩ (.int .i64 n2)) := ((Kx.refl _ _).set (p := ⟨w.heap.size, 0, none⟩) (.inr (fun e => e rfl)) _).set (p := ⟨w.heap.size, 1, none⟩) (.inr (fun e => e rfl)) _
  have H5 : Hid (ST B ((w4.setCell ⟨w.heap.size, 0, none⟩ (.int .i64 n1)).setCell ⟨w.heap.size, 1, none⟩ (.int .i64 n2)) q pl ve vc P E S N (I.set c M') G ∧ BC w ((w4.setCell ⟨w.heap.size, 0, none⟩ (.int .i64 n1)).setCell ⟨w.heap.size, 1, none⟩ (.int .i64 n2)) (sob q pl ve vc P) (sob q pl ve vc P)) := hide ⟨H4.out.1.keepX kz (fun j b hj e => by subst e; exact HNs.out j hj), ⟨H4.out.2.k.step kz (fun b hb _ e => by omega), fun j _ h => .inl ⟨j, h⟩⟩⟩
  have f5 : ((w4.setCell ⟨w.heap.size, 0, none⟩ (.int .i64 n1)).setCell ⟨w.heap.size, 1, none⟩ (.int .i64 n2)).frozen? ⟨w.heap.size, 0, none⟩ = false ∧ ((w4.setCell ⟨w.heap.size, 0, none⟩ (.int .i64 n1)).setCell ⟨w.heap.size, 1, none⟩ (.int .i64 n2)).frozen? ⟨w.heap.size, 1, none⟩ = false := ⟨(World.frozen?_setCell _ _ _ _).trans ((World.frozen?_setCell _ _ _ _).trans z2), (World.frozen?_setCell _ _ _ _).trans ((World.frozen?_setCell _ _ _ _).trans z3)⟩
  have hw5 : w.heap.size < ((w4.setCell ⟨w.heap.size, 0, none⟩ (.int .i64 n1)).setCell ⟨w.heap.size, 1, none⟩ (.int .i64 n2)).heap.size := World.block_lt_of_cell? _ _ y1.1
  clear H4 kz hr4 hk4 p1 HX HC HP HZ HBz
  go_wp2
  generalize hV : (w4.setCell ⟨w.heap.size, 0, none⟩ (.int .i64 n1)).setCell ⟨w.heap.size, 1, none⟩ (.int .i64 n2) = V at *
  clear hV z0 z1 z2 z3
  have hkd : Below V.heap.size V V.drew := below_drewN (Below.refl _ _) 1
  have HS0 : Hid (V.drew.cell? ⟨q, 0, none⟩ = some (.pointer (some ⟨pl, 0, none⟩)) ∧ V.drew.cell? ⟨w.heap.size, 1, none⟩ = some (.int .i64 n2)) := hide ⟨H5.out.1.c0, y1.2⟩
  have HQ : Hid (∀ w' ve', LC V.drew w' pl ve ve' → w'.cell? ⟨q, 0, none⟩ = some (.pointer (some ⟨pl, 0, none⟩)) ∧ w'.cell? ⟨w.heap.size, 1, none⟩ = some (.int .i64 n2)) := hide (fun w' ve' hl => ⟨hl.k.cell HS0.out.1 hqp, hl.k.cell HS0.out.2 hwp⟩)
  have HM2 := hide (HMv.out V.drew (H5.out.1.lg.keep hkd))
  clear HS HR HT HMv
  go_region_held3 (fun w' => w'.cell? ⟨q, 0, none⟩ = some (.pointer (some ⟨pl, 0, none⟩)) ∧ w'.cell? ⟨w.heap.size, 1, none⟩ = some (.int .i64 n2)) ((first | (with_reducible exact HS0.out) | (with_reducible exact HQ.out _ _ LCN.out) | go_keep)) ((refine step_call_w (by rfl) 44 #[.pointer (some ⟨pl, 0, none⟩), .int .i64 n2, .int .i64 tk] ?_ HM2.out ?_; (focus (go_simp; done)); rintro v7 w7 ⟨rfl, hlg, hlc⟩; have LGN := hide hlg; have LCN := hide hlc; clear hlg hlc))
  have H7 := hide ((H5.out.1.keep hkd).led LGN.out LCN.out)
  have a0 := LCN.out.k.cell (show V.drew.cell? ⟨w.heap.size, 0, none⟩ = _ from y1.1) hwp
  have a1 := LCN.out.k.cell (show V.drew.cell? ⟨w.heap.size, 1, none⟩ = _ from y1.2) hwp
  have a2 : w7.frozen? ⟨w.heap.size, 0, none⟩ = false := (LCN.out.k.frozen (p := ⟨w.heap.size, 0, none⟩) hw5 hwp).trans f5.1
  have a3 : w7.frozen? ⟨w.heap.size, 1, none⟩ = false := (LCN.out.k.frozen (p := ⟨w.heap.size, 1, none⟩) hw5 hwp).trans f5.2
  have y7 := set_two a0 a1 (.int .i64 n1) (.int .i64 n2)
  go_wp2
  refine bodyPost_ret (v := .tuple #[.agg #[.int .i64 n1, .int .i64 n2], .int .i64 1]) (by simp [results, Try.results19, go_sem, y7.1, y7.2]) rfl ⟨rfl, P, ?_⟩
  have kz : Kx (fun b => b ≠ w.heap.size) w7 ((w7.setCell ⟨w.heap.size, 0, none⟩ (.int .i64 n1)).setCell ⟨w.heap.size, 1, none⟩ (.int .i64 n2)) := ((Kx.refl _ _).set (p := ⟨w.heap.size, 0, none⟩) (.inr (fun e => e rfl)) _).set (p := ⟨w.heap.size, 1, none⟩) (.inr (fun e => e rfl)) _
  have hb7 := H5.out.2.trans ((BC.of_below hkd _).trans H7.out.2)
  exact ⟨H7.out.1.keepX kz (fun j b hj e => by subst e; exact HNs.out j hj), ⟨hb7.k.step kz (fun b hb _ e => by omega), fun j _ h => .inl ⟨j, h⟩⟩⟩
end
end Go.Proofs.Ytbepaimbbclejaa

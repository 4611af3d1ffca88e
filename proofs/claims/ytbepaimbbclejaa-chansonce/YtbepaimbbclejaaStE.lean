import Derived.Test.YtbepaimbbclejaaStD
/- Package chans: Clone. -/
namespace Go.Proofs.Ytbepaimbbclejaa
open Go.RowKit

set_option maxRecDepth 100000
set_option maxHeartbeats 1000000
section
variable {B : Nat} {w : World} {q pl : Nat} {ve vc : Value} {P : List Pl} {E : List En} {S N : List Int} {I : List (List (Int × Int))} {G : List Bool}
theorem csClone_no (h : ST B w q pl ve vc P E S N I G) (o : BOk E S I G) (hN : SN E N) (e tk : Int) (hn : Bk.there E e true = false ∨ tk < 0) : Calls Try.prog 28 #[.pointer (some ⟨q, 0, none⟩), .int .i64 e, .int .i64 tk] w fun r w' => r = .returned (.int .i64 (-1)) ∧ Below w.heap.size w w' := by
  cases h1 : Bk.there E e true with
  | false =>
    have HS := hide (sendTo_no h e h1)
    clear h o hN hn h1
    go_enter Try.func28, Try.ntmps28
    go_wp2_with fail
    refine HS.out.mono ?_
    rintro e w1 ⟨rfl, hb⟩
    go_wp2
    go_ret
    exact ⟨rfl, hb⟩
  | true =>
    obtain ⟨c, p, sl, M, g, hc, hp, -⟩ := h.of o hN h1
    have HS := hide (sendTo_yes h e h1 hc hp)
    have ht : tk < 0 := by rcases hn with hn | hn; · rw [h1] at hn; cases hn
                           · exact hn
    have HT := hide (isTask_any tk)
    rw [decide_eq_false (by omega : ¬ 0 ≤ tk)] at HT
    clear h o hN hn h1 hc hp ht
    go_enter Try.func28, Try.ntmps28
    go_wp2_with fail
    refine HS.out.mono ?_
    rintro e w1 ⟨rfl, hb⟩
    have HB := hide hb
    clear hb
    go_wp2_with fail
    refine (HT.out _).mono ?_
    rintro e w2 ⟨rfl, rfl⟩
    go_wp2
    go_ret
    exact ⟨rfl, HB.out⟩
theorem ST.sender (h : ST B w q pl ve vc P E S N I G) {c : Nat} {p : Pl} {sl n : Int} {M : List (Int × Int)} {g : Bool} (hp : P[c]? = some p) (hS : S[c]? = some sl) (hI : I[c]? = some M) (hG : G[c]? = some g) (hc : CH B w p sl n M g) (n' : Int) : ST B (w.setCell ⟨p.1, 1, none⟩ (.int .i64 n')) q pl ve vc P E S (N.set c n') I G ∧ BC w (w.setCell ⟨p.1, 1, none⟩ (.int .i64 n')) (sob q pl ve vc P) (sob q pl ve vc P) := by
  obtain ⟨e1, e2, e3⟩ := sob_at (q := q) (pl := pl) (ve := ve) (vc := vc) hp
  have n1 : p.1 ≠ p.2.1 := fun e => absurd (h.dj _ _ p.1 e1 (by rw [e]; exact e2)) (by omega)
  have n2 : p.2.2.ownBlock ≠ some p.1 := fun e => absurd (h.dj _ _ p.1 e1 (by rw [e3, e])) (by omega)
  have hk : Kx (fun b => b ≠ p.1) w (w.setCell ⟨p.1, 1, none⟩ (.int .i64 n')) := (Kx.refl _ _).set (p := ⟨p.1, 1, none⟩) (.inr (fun e => e rfl)) _
  have := h.chan (v' := p.2.2) (n' := n') (M' := M) (g' := g) hp hS (hk.mono (fun b _ hb => hb.1)) ⟨by rw [World.cell?_setCell_other _ _ _ _ (fun e => by injection e with _ e; omega)]; exact hc.c0, World.cell?_setCell_same _ _ _ hc.c1, by rw [World.cell?_setCell_other _ _ _ _ (fun e => by injection e with _ e; omega)]; exact hc.c2, fun k => by rw [World.frozen?_setCell]; exact hc.t k, hc.r.keep hk (fun e => n1 e.symm) (fun b hb e => n2 (by rw [hb, e])), hc.s0, hc.lo⟩ (.inr (.inl rfl))
  have eP : P.set c (p.1, p.2.1, p.2.2) = P := by
    refine List.ext_getElem? (fun i => ?_)
    by_cases e : c = i
    · subst e; rw [List.getElem?_set_self (List.getElem?_eq_some_iff.1 hp).1, hp]
    · rw [List.getElem?_set_ne e]
  have eI : I.set c M = I := by
    refine List.ext_getElem? (fun i => ?_)
    by_cases e : c = i
    · subst e; rw [List.getElem?_set_self (List.getElem?_eq_some_iff.1 hI).1, hI]
    · rw [List.getElem?_set_ne e]
  have eG : G.set c g = G := by
    refine List.ext_getElem? (fun i => ?_)
    by_cases e : c = i
    · subst e; rw [List.getElem?_set_self (List.getElem?_eq_some_iff.1 hG).1, hG]
    · rw [List.getElem?_set_ne e]
  rw [eP, eI, eG] at this
  exact this
theorem csClone_yes (h : ST B w q pl ve vc P E S N I G) (o : BOk E S I G) (hN : SN E N) (e tk : Int) (h1 : Bk.there E e true = true) (ht : 0 ≤ tk) : Calls Try.prog 28 #[.pointer (some ⟨q, 0, none⟩), .int .i64 e, .int .i64 tk] w fun r w' => r = .returned (.int .i64 (E.length : Int)) ∧ ∃ ve', ST B w' q pl ve' vc P (E ++ [⟨(Ld.at E e).c, true, tk, 0⟩]) S (N.set (Ld.at E e).c.toNat ((Bk.send E (Ld.at E e).c : Int) + 1)) I G ∧ BC w w' (sob q pl ve vc P) (sob q pl ve' vc P) := by
  obtain ⟨c, p, sl, M, g, hc, hp, hS, hn, hI, hG, hch, hM⟩ := h.of o hN h1
  have HS := hide (sendTo_yes h e h1 hc hp)
  have HT := hide (isTask_any tk)
  rw [decide_eq_true ht] at HT
  obtain ⟨k, x, -, hx, ha, hxs, hxh, -⟩ := Bk.there_some h1
  have hhas : Ld.has E e = true := by
    unfold Bk.there at h1
    cases hh : Ld.has E e with
    | true => rfl
    | false => rw [hh] at h1; cases h1
  have hle := o.le
  have hsl : Bk.send E (c : Int) ≤ 100000 := Nat.le_trans (Bk.send_le _ _) hle
  rw [hc, Int.toNat_natCast]
  obtain ⟨n, hnn⟩ : ∃ n, Bk.send E (c : Int) = n := ⟨_, rfl⟩
  rw [hnn] at hch hsl hn ⊢
  have HX := hide (fun X (hX : Below w.heap.size w X) => (h.keep hX).sender hp hS hI hG (hch.keep (X := fun _ => True) (Kx.of_below hX) trivial trivial (fun _ _ => trivial)) ((n : Int) + 1))
  have HK := hide (fun X (hX : Below w.heap.size w X) => And.intro (bsome hX hch.c1) ((hX.frozen (p := ⟨p.1, 1, none⟩) (World.block_lt_of_cell? _ ⟨p.1, 0, none⟩ hch.c0)).trans (hch.t 1)))
  obtain ⟨xc, xs, xh, xd⟩ := x
  rw [ha] at hc
  simp only at hc hxs
  subst hc hxs
  have HEn : Hid (∀ X, LG B X pl ve E → Calls Try.prog 15 #[.pointer (some ⟨pl, 0, none⟩), .int .i64 e] X fun r w' => r = .returned (.tuple #[.agg #[.int .i64 (c : Int), .bool true, .int .i64 xh, .int .i64 xd], .bool true]) ∧ Below X.heap.size X w') := hide (fun X hX => by
    have := end_any hX e
    rw [ha, hhas] at this
    exact this)
  have HBo : Hid (∀ X, LG B X pl ve E → Calls Try.prog 40 #[.pointer (some ⟨pl, 0, none⟩), .int .i64 (c : Int), .bool true, .int .i64 tk] X fun r w' => ∃ u, r = .returned u ∧ (u = .int .i64 (E.length : Int) ∧ ∃ ve', LG B w' pl ve' (E ++ [⟨(c : Int), true, tk, 0⟩]) ∧ LC X w' pl ve ve')) := hide (fun X hX => by
    have := born_any hX (c : Int) true tk (by omega)
    unfold Ld.born at this
    rw [if_pos (by omega), if_pos (by omega)] at this
    exact this.mono (fun e w' h => ⟨_, h.1, rfl, h.2⟩))
  clear h o hN h1 hx ha hhas hp hS hn hI hG hch hM hnn ht hxh
  go_enter Try.func28, Try.ntmps28
  go_wp2_with fail
  refine HS.out.mono ?_
  rintro e w1 ⟨rfl, hb⟩
  have HB := hide hb
  obtain ⟨k1, k2⟩ := HK.out _ hb
  clear hb
  go_wp2_with fail
  refine (HT.out _).mono ?_
  rintro e w2 ⟨rfl, rfl⟩
  have HX2 := hide (HX.out _ HB.out)
  have q0 := HX2.out.1.c0
  clear HX HK
  go_wp2_with fail
  refine (HEn.out _ HX2.out.1.lg).mono ?_
  rintro e w3 ⟨rfl, hb⟩
  have hb4 : Below (w2.setCell ⟨p.1, 1, none⟩ (.int .i64 ((n : Int) + 1))).heap.size (w2.setCell ⟨p.1, 1, none⟩ (.int .i64 ((n : Int) + 1))) (w3.alloc (.cells #[.int .i64 (c : Int), .bool true, .int .i64 xh, .int .i64 xd] 48)) := hb.alloc hb.size _
  have z0 : (w3.alloc (.cells #[.int .i64 (c : Int), .bool true, .int .i64 xh, .int .i64 xd] 48)).cell? ⟨w3.heap.size, 0, none⟩ = some (.int .i64 (c : Int)) := by simp [go_sem]
  have HX4 : Hid (ST B (w3.alloc (.cells #[.int .i64 (c : Int), .bool true, .int .i64 xh, .int .i64 xd] 48)) q pl ve vc P E S (N.set c ((n : Int) + 1)) I G ∧ BC w (w3.alloc (.cells #[.int .i64 (c : Int), .bool true, .int .i64 xh, .int .i64 xd] 48)) (sob q pl ve vc P) (sob q pl ve vc P)) := hide ⟨HX2.out.1.keep hb4, (BC.of_below HB.out _).trans (HX2.out.2.trans (BC.of_below hb4 _))⟩
  have q4 := HX4.out.1.c0
  have hnz : ∀ j : Nat, (sob q pl ve vc P)[j]? ≠ some (some w3.heap.size) := (HX2.out.1.keep hb).new (Nat.le_refl _)
  clear hb hb4 HX2 q0 k1 k2 HB
  go_wp2
  generalize hV : w3.alloc (.cells #[.int .i64 (c : Int), .bool true, .int .i64 xh, .int .i64 xd] 48) = V at *
  clear hV
  generalize w3.heap.size = bz at *
  have HQ : Hid (∀ w' ve', LC V.drew w' pl ve ve' → w'.cell? ⟨q, 0, none⟩ = some (.pointer (some ⟨pl, 0, none⟩)) ∧ w'.cell? ⟨bz, 0, none⟩ = some (.int .i64 (c : Int))) := hide (fun w' ve' hl => by
    have hd := HX4.out.1.dj
    refine ⟨hl.k.cell (show V.drew.cell? _ = _ from q4) ⟨fun (e : q = pl) => absurd (hd 0 1 q rfl (by show some (some pl) = _; rw [e])) (by decide), fun (e : some q = ve.ownBlock) => absurd (hd 0 2 q rfl (by show some ve.ownBlock = _; rw [← e])) (by decide)⟩, hl.k.cell (show V.drew.cell? _ = _ from z0) ⟨fun (e : bz = pl) => hnz 1 (by show some (some pl) = _; rw [← e]), fun (e : some bz = ve.ownBlock) => hnz 2 (by show some ve.ownBlock = _; rw [← e])⟩⟩)
  have HBo2 := hide (HBo.out V.drew (HX4.out.1.lg.keep (below_drewN (Below.refl _ _) 1)))
  have HS0 : Hid (V.drew.cell? ⟨q, 0, none⟩ = some (.pointer (some ⟨pl, 0, none⟩)) ∧ V.drew.cell? ⟨bz, 0, none⟩ = some (.int .i64 (c : Int))) := hide ⟨q4, z0⟩
  clear HBo HEn HT HS
  go_region_held3 (fun w' => w'.cell? ⟨q, 0, none⟩ = some (.pointer (some ⟨pl, 0, none⟩)) ∧ w'.cell? ⟨bz, 0, none⟩ = some (.int .i64 (c : Int))) ((first | (with_reducible exact HS0.out) | (with_reducible exact HQ.out _ _ LCN.out) | go_keep)) ((refine step_call_w (by rfl) 40 #[.pointer (some ⟨pl, 0, none⟩), .int .i64 (c : Int), .bool true, .int .i64 tk] ?_ HBo2.out ?_; (focus (go_simp; done)); rintro v7 w7 ⟨rfl, ve', hlg, hlc⟩; have LGN := hide hlg; have LCN := hide hlc; clear hlg hlc))
  go_wp2
  go_ret
  have hkd : Below V.heap.size V V.drew := below_drewN (Below.refl _ _) 1
  have hf := (HX4.out.1.keep hkd).led LGN.out LCN.out
  exact ⟨rfl, ve', hf.1, HX4.out.2.trans ((BC.of_below hkd _).trans hf.2)⟩
end
end Go.Proofs.Ytbepaimbbclejaa

import Derived.Test.YtbepaimbbclejaaStGa
import Derived.Test.YtbepaimbbclejaaChF
import Derived.Deep.LoopGhost
/- Package chans: Drop walked. -/
namespace Go.Proofs.Ytbepaimbbclejaa
open Go.RowKit

set_option maxRecDepth 100000
set_option maxHeartbeats 1000000
section
variable {B : Nat} {w : World} {q pl : Nat} {ve vc : Value} {P : List Pl} {E : List En} {S N : List Int} {I : List (List (Int × Int))} {G : List Bool}
theorem dWith_any (h : ST B w q pl ve vc P E S N I G) (o : BOk E S I G) (hN : SN E N) (hT : Bk.tot I ≤ 1000) (e : Int) (f : Nat) (hf : Bk.tot I < f) :
    Calls Try.prog 37 #[.pointer (some ⟨q, 0, none⟩), .int .i64 e] w fun r w' => ∃ v n c P' N', r = .returned (.slice v n c) ∧ decide (0 < n) = (Bk.drop f ⟨E, I, G⟩ e).2 ∧ n ≤ 2000 ∧ ST B w' q pl ve vc P' (Bk.drop f ⟨E, I, G⟩ e).1.e S N' (Bk.drop f ⟨E, I, G⟩ e).1.i (Bk.drop f ⟨E, I, G⟩ e).1.g ∧ SN (Bk.drop f ⟨E, I, G⟩ e).1.e N' ∧ DK w w' (sob q pl ve vc P) (sob q pl ve vc P') := by
  obtain ⟨i0, hi, hz0, hz1, hz2⟩ := info_parts Try.info3
  have hb0 : Below w.heap.size w (w.alloc (.cells #[.int .i64 e] 3)) := (Below.refl _ _).alloc (Nat.le_refl _) _
  have H0 : Hid (DW B w q pl ve vc P S f ⟨E, I, G⟩ e (w.alloc (.cells #[.int .i64 e] 3)) (.slice (some ⟨w.heap.size, 0, none⟩) 1 1) (.slice none 0 0) [e] [] ⟨E, I, G⟩ P N) := hide ⟨h.keep hb0, o, hN, rfl, .inr (.inl ⟨rfl, rfl, rfl⟩), ⟨rfl, .inr ⟨w.heap.size, 1, #[.int .i64 e], rfl, Nat.le_refl _, heap_alloc_new w _, Nat.le_refl _, by unfold maxLen; omega, rfl, rfl⟩⟩, World.ownsRow_nil _ _ _ _, (fun b _ hb => by cases hb), DK.of_below hb0 _, by simp, fun j b hj => (h.bnd hj).2⟩
  have HF := hide hf
  clear h o hN hb0 hf
  go_enter Try.func37, Try.ntmps37
  go_wp2
  go_loopg [4, 5] (1 + Bk.tot I) (fun gh gv lv wr => ∃ (R W : List Int) (s : Bs) (P' : List Pl) (N' : List Int), gh = R.length + Bk.tot s.i ∧ Hid (DW B w q pl ve vc P S f ⟨E, I, G⟩ e wr lv gv R W s P' N'))
  case atStart => exact ⟨[e], [], ⟨E, I, G⟩, P, N, rfl, H0⟩
  case round =>
    obtain ⟨R, W, s, P', N', rfl, HD⟩ := hrel
    have hlen := HD.out.len
    simp only at hlen
    cases R with
    | nil =>
      obtain ⟨al, cl, e5⟩ := own_slicei HD.out.lw
      obtain ⟨ag, cg, e6⟩ := own_slicei HD.out.gw
      subst e5 e6
      simp only [List.length_nil]
      have HR : Hid (∃ v n c P' N', Ending.returned (.slice ag W.length cg) = .returned (.slice v n c) ∧ decide (0 < n) = (Bk.drop f ⟨E, I, G⟩ e).2 ∧ n ≤ 2000 ∧ ST B wr q pl ve vc P' (Bk.drop f ⟨E, I, G⟩ e).1.e S N' (Bk.drop f ⟨E, I, G⟩ e).1.i (Bk.drop f ⟨E, I, G⟩ e).1.g ∧ SN (Bk.drop f ⟨E, I, G⟩ e).1.e N' ∧ DK w wr (sob q pl ve vc P) (sob q pl ve vc P')) := hide (by
        have hfin : s = (Bk.drop f ⟨E, I, G⟩ e).1 := HD.out.fin
        have hst := HD.out.st
        have hsn := HD.out.sn
        rw [hfin] at hst hsn
        refine ⟨ag, W.length, cg, P', N', rfl, ?_, by omega, hst, hsn, HD.out.dk⟩
        rcases HD.out.cnd with ⟨h1, h2⟩ | ⟨-, h2, -⟩ | ⟨h1, -, h2⟩
        · rw [h2]; simpa using h1
        · cases h2
        · rw [h2, h1]; rfl)
      clear HD H0
      go_wp2
      go_ret
      exact HR.out
    | cons x R =>
      simp only [List.length_cons] at hlen
      have hlw := HD.out.lw
      rw [List.reverse_cons, List.length_cons] at hlw
      obtain ⟨g, cap, e5, hgB, -⟩ := hlw.form (by omega)
      subst e5
      have hcell : wr.cell? ⟨g, R.length, none⟩ = some (.int .i64 x) := by
        rw [hlw.cellAt _ (by omega)]
        simp [ints]
      have HLW := hide (own_less (n := R.length) hlw (by simp))
      obtain ⟨ag, cg, e6⟩ := own_slicei HD.out.gw
      subst e6
      have l0 : (0 : Int) ≤ (R.length : Int) := by omega
      have l1 : (R.length : Int) < (R.length : Int) + 1 := by omega
      obtain ⟨A, hA⟩ : ∃ A, Bk.alone s x = A := ⟨_, rfl⟩
      have HC := hide (dAlone_any HD.out.st HD.out.ok HD.out.sn (fun M hM => by have := Bk.mem_tot hM; omega) x A hA)
      have HA := hide hA
      have ht := Bk.alone_tot s x
      rw [hA] at ht
      have hno := Bk.alone_no (s := s) (e := x)
      rw [hA] at hno
      have hll := Bk.lay_len A.2.2
      have hcapR : R.length ≤ cap := by
        rcases HLW.out.2 with ⟨h0, -⟩ | ⟨g', cap', cur, hv, hb, hg', h1, h2, h3, h4⟩
        · cases h0
        · simp only [Value.slice.injEq, Option.some.injEq, Addr.mk.injEq] at hv
          obtain ⟨-, -, rfl⟩ := hv
          exact h1
      clear hlw hA H0
      go_wp2_with fail
      refine HC.out.mono ?_
      rintro ee w1 ⟨v, P2, N2, rfl, hlay, hst, hsn, hdk⟩
      have HS := hide (And.intro hst (And.intro hsn hdk))
      have hnb : ∀ b, w.heap.size ≤ b → ∀ j : Nat, (sob q pl ve vc P')[j]? ≠ some (some b) := fun b hb j hj => by have := HD.out.bc j b hj; omega
      have HL1 := hide (own_keepe HLW.out (fun b hb => hdk.k.block b (HLW.out.lt b hb).2 (hnb b (HLW.out.lt b hb).1)))
      have HG1 := hide (own_keepe HD.out.gw (fun b hb => hdk.k.block b (HD.out.gw.lt b hb).2 (hnb b (HD.out.gw.lt b hb).1)))
      have hws : w.heap.size ≤ wr.heap.size := HD.out.dk.k.size
      have hws1 : wr.heap.size ≤ w1.heap.size := hdk.k.size
      have hne0 : (Value.slice ag W.length cg).ownBlock ≠ some g := HD.out.ne g rfl
      have hgl : g < wr.heap.size := (HLW.out.lt g rfl).2
      have HGl : Hid (∀ b, (Value.slice ag W.length cg).ownBlock = some b → b < wr.heap.size) := hide (fun b hb => (HD.out.gw.lt b hb).2)
      obtain ⟨av, cv, e7⟩ := own_slicei hlay
      subst e7
      have HY := hide hlay
      clear hst hsn hdk hlay hnb HLW hcell
      obtain ⟨sA, was, MA⟩ := A
      simp only at HA HS ht hno hll HY HL1
      cases was with
      | false =>
        obtain rfl := hno rfl
        have hY0 : (Bk.lay (List.reverse ([] : List (Int × Int)))).length = 0 := rfl
        have HN := hide (HD.out.next (w2 := w1) (W' := W) (lv' := .slice (some ⟨g, 0, none⟩) R.length cap) (gv' := .slice ag W.length cg) HF.out _ HA.out HS.out.1 HS.out.2.1 HS.out.2.2 (Kx.refl _ _) rfl (by show w1.ownsRow _ _ _ _ R.length (ints R.reverse); exact HL1.out) HG1.out (fun b hb => by
          have : g = b := by simpa [Value.ownBlock] using hb
          rw [← this]; exact hne0))
        rw [hY0] at HY ⊢
        clear HG1 HGl hY0
        go_wp2_with (at_builtin; refine wpList_append_none rfl _ _ 28 rfl w.heap.size 3 i0 1 Try.underlying28 hi _ _ _ rfl (by exact HL1.out) av cv rfl ?_)
        go_wp2
        go_roundg (R.length + Bk.tot sA.i)
        case measure => simp at ht ⊢; omega
        case rel => exact ⟨R, W, sA, P2, N2, rfl, HN⟩
      | true =>
        clear hno
        go_wp2_with (at_builtin; refine wpList_append_lies _ rfl _ _ 28 rfl w.heap.size 3 i0 (.int .i64 0) 1 8 Try.underlying28 hi hz0 hz1 hz2 rfl (by decide) _ _ _ rfl (by exact HG1.out.alloc _) ⟨w1.heap.size, 0, none⟩ 1 1 [.int .i64 x] rfl rfl (cell_one_new w1 _ 3) (by intro u hu; simp at hu; subst hu; rfl) (by decide) (by unfold maxLen; omega) (by omega) (by simp; omega) _ rfl ?_)
        intro gq cq w2 hown hgrow hat hlt2
        have HG2 : Hid (w2.ownsRow w.heap.size 3 1 (.slice (some ⟨gq, 0, none⟩) (W.length + 1) cq) (W ++ [x]).length (ints (W ++ [x]))) := hide (by rw [ints_app, List.length_append, List.length_singleton]; exact hown)
        have HK2 : Hid (Kx (fun b => some b ≠ (Value.slice ag W.length cg).ownBlock) w1 w2) := hide (kx_grown hgrow)
        have hgq : gq ≠ g := by
          rcases hat with e1 | e1
          · intro e2; rw [e2] at e1; exact hne0 e1
          · omega
        have hgw : some g ≠ (Value.slice ag W.length cg).ownBlock := fun e => hne0 e.symm
        have HL2 := hide (own_keepe HL1.out (fun b hb => HK2.out.block b (HL1.out.lt b hb).2 (by
          have : g = b := by simpa [Value.ownBlock] using hb
          rw [← this]; exact hgw)))
        have HY2 := hide (own_keepe HY.out (fun b hb => HK2.out.block b (HY.out.lt b hb).2 (fun e => by have h1 := HGl.out b e.symm; have h2 := (HY.out.lt b hb).1; omega)))
        have hw12 : w1.heap.size ≤ w2.heap.size := HK2.out.size
        have HYb : Hid (∀ b, (Value.slice av (Bk.lay MA.reverse).length cv).ownBlock = some b → wr.heap.size ≤ b ∧ b < w1.heap.size) := hide (fun b hb => HY.out.lt b hb)
        have HKw : Hid (Kx (fun b => b < w.heap.size) w1 w2) := hide (HK2.out.mono (fun b _ hb e => by
          have h3 := HG1.out.lt b e.symm
          omega))
        have hgqw : w.heap.size ≤ gq := (HG2.out.lt gq rfl).1
        have hgql : gq < w2.heap.size := (HG2.out.lt gq rfl).2
        clear hown hgrow hat hlt2 HG1 HL1 HY HK2 HGl
        have hrl : (Bk.lay MA.reverse).length = (Bk.lay MA).length := by rw [← Bk.lay_rev MA, List.length_reverse]
        have hbig : (Bk.lay MA.reverse).length + R.length ≤ 1000000 := by rw [hrl]; omega
        have HRL := hide hrl
        clear hrl
        cases hlm : Bk.lay MA.reverse with
        | nil =>
          have hl0 : Bk.lay MA = [] := List.length_eq_zero_iff.1 (by rw [← HRL.out, hlm]; rfl)
          have HN := hide (HD.out.next (w2 := w2) (W' := W ++ [x]) (lv' := .slice (some ⟨g, 0, none⟩) R.length cap) (gv' := .slice (some ⟨gq, 0, none⟩) (W.length + 1) cq) HF.out _ HA.out HS.out.1 HS.out.2.1 HS.out.2.2 HKw.out rfl (by show w2.ownsRow _ _ _ _ (Bk.lay MA ++ R).length _; rw [hl0]; exact HL2.out) HG2.out (fun b hb e => by
            have h1 : g = b := by simpa [Value.ownBlock] using hb
            have h2 : gq = b := by simpa [Value.ownBlock] using e
            omega))
          simp only [hl0, List.nil_append] at HN
          simp only [List.length_nil]
          clear HG2
          go_wp2_with (at_builtin; refine wpList_append_none rfl _ _ 28 rfl w.heap.size 3 i0 1 Try.underlying28 hi _ _ _ rfl (by exact HL2.out) av cv rfl ?_)
          go_wp2
          go_roundg (R.length + Bk.tot sA.i)
          case measure => simp at ht ⊢; omega
          case rel => exact ⟨R, W ++ [x], sA, P2, N2, rfl, HN⟩
        | cons y L =>
          rw [← hlm]
          have hpos : 0 < (Bk.lay MA.reverse).length := by rw [hlm]; simp
          obtain ⟨gy, cy, e8, hgy, -⟩ := HY2.out.form hpos
          obtain ⟨rfl, rfl⟩ : av = some ⟨gy, 0, none⟩ ∧ cv = cy := by simpa using e8
          have HYc : Hid (∀ (j : Nat) u, (ints (Bk.lay MA.reverse))[j]? = some u → w2.cell? ((⟨gy, 0, none⟩ : Addr).add j) = some u) := hide (fun j u hu => HY2.out.cells (g := gy) rfl j u hu)
          have HY1 : Hid (∀ u ∈ ints (Bk.lay MA.reverse), u.oneCell' = true) := hide (fun u hu => by
            obtain ⟨z, -, rfl⟩ := List.mem_map.1 hu
            rfl)
          have HYl : Hid ((ints (Bk.lay MA.reverse)).length = (Bk.lay MA.reverse).length * 1) := hide (by rw [ints_len, Nat.mul_one])
          have hyb := HYb.out gy rfl
          clear hlm e8 hgy
          go_wp2_with (at_builtin; refine wpList_append_lies _ rfl _ _ 28 rfl w.heap.size 3 i0 (.int .i64 0) 1 8 Try.underlying28 hi hz0 hz1 hz2 rfl (by decide) _ _ _ rfl (by exact HL2.out) ⟨gy, 0, none⟩ (Bk.lay MA.reverse).length cv (ints (Bk.lay MA.reverse)) rfl (by exact HYl.out) (by exact HYc.out) (by exact HY1.out) hpos (by unfold maxLen; omega) (by omega) (by omega) _ rfl ?_)
          intro gl cl w3 hown hgrow hat hlt3
          have HK3 : Hid (Kx (fun b => b ≠ g) w2 w3) := hide ((Kx.refl _ w2).grown hgrow (fun k hk => .inr (fun e => e (by simpa [Value.ownBlock] using hk.symm))))
          have HN : Hid (DW B w q pl ve vc P S f ⟨E, I, G⟩ e w3 (.slice (some ⟨gl, 0, none⟩) (R.length + (Bk.lay MA.reverse).length) cl) (.slice (some ⟨gq, 0, none⟩) (W.length + 1) cq) (Bk.lay MA ++ R) (W ++ [x]) sA P2 N2) := hide (HD.out.next (w2 := w3) (W' := W ++ [x]) (lv' := .slice (some ⟨gl, 0, none⟩) (R.length + (Bk.lay MA.reverse).length) cl) (gv' := .slice (some ⟨gq, 0, none⟩) (W.length + 1) cq) HF.out _ HA.out HS.out.1 HS.out.2.1 HS.out.2.2 (HKw.out.step HK3.out (fun b _ hb e => by omega)) rfl (by
            show w3.ownsRow _ _ _ _ (Bk.lay MA ++ R).length (ints (Bk.lay MA ++ R).reverse)
            rw [List.reverse_append, ints_app, List.length_append, ← HRL.out, Nat.add_comm _ R.length, ← Bk.lay_rev MA, List.reverse_reverse]
            exact hown) (own_keepe HG2.out (fun b hb => HK3.out.block b (HG2.out.lt b hb).2 (by
              have h2 : gq = b := by simpa [Value.ownBlock] using hb
              omega))) (fun b hb e => by
            have h1 : gl = b := by simpa [Value.ownBlock] using hb
            have h2 : gq = b := by simpa [Value.ownBlock] using e
            rcases hat with e1 | e1
            · have h3 : g = gl := by simpa [Value.ownBlock] using e1
              omega
            · omega))
          clear hown hgrow hat hlt3 HG2 HL2 HY2
          go_wp2
          go_roundg ((Bk.lay MA ++ R).length + Bk.tot sA.i)
          case measure => simp at ht ⊢; omega
          case rel => exact ⟨Bk.lay MA ++ R, W ++ [x], sA, P2, N2, rfl, HN⟩
theorem csDrop_any (h : ST B w q pl ve vc P E S N I G) (o : BOk E S I G) (hN : SN E N) (hT : Bk.tot I ≤ 1000) (e : Int) (f : Nat) (hf : Bk.tot I < f) :
    Calls Try.prog 16 #[.pointer (some ⟨q, 0, none⟩), .int .i64 e] w fun r w' => r = .returned (.bool (Bk.drop f ⟨E, I, G⟩ e).2) ∧ ∃ P' N', ST B w' q pl ve vc P' (Bk.drop f ⟨E, I, G⟩ e).1.e S N' (Bk.drop f ⟨E, I, G⟩ e).1.i (Bk.drop f ⟨E, I, G⟩ e).1.g ∧ SN (Bk.drop f ⟨E, I, G⟩ e).1.e N' ∧ DK w w' (sob q pl ve vc P) (sob q pl ve vc P') := by
  have HC := hide (dWith_any h o hN hT e f hf)
  generalize Bk.drop f ⟨E, I, G⟩ e = D at *
  clear h o hN hT hf
  go_enter Try.func16, Try.ntmps16
  go_wp2_with fail
  refine HC.out.mono ?_
  rintro e w1 ⟨v, n, c, P', N', rfl, hd, hn, h1, h2, h3⟩
  have HR := hide (And.intro h1 (And.intro h2 h3))
  have hd2 : decide ((0 : Int) < (n : Int)) = D.2 := by rw [← hd]; exact decide_eq_decide.2 (by omega)
  clear h1 h2 h3
  go_wp2
  go_ret
  exact ⟨by first | rfl | simpa using hd, P', N', HR.out⟩
end
end Go.Proofs.Ytbepaimbbclejaa

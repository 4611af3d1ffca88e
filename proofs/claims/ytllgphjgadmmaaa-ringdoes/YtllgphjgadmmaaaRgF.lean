import Derived.Test.YtllgphjgadmmaaaRgEp
import Derived.Test.YtllgphjgadmmaaaRgEt
import Derived.Test.YtllgphjgadmmaaaRgEa
import Derived.Test.YtllgphjgadmmaaaRgEc
/- Rings: the law RingDoes. -/
namespace Go.Proofs.Ytllgphjgadmmaaa
open Go.RowKit

theorem qmix_eq (Q : Exit → Act → World → Prop) (h : ∀ c t t' d w, Q (.panic c) ⟨t, d⟩ w = Q (.panic c) ⟨t', d⟩ w) : qmix (fun c a w => Q (.panic c) a w) Q = Q := by
  funext e a w
  cases e <;> first | rfl | exact h _ _ _ _ _
set_option maxRecDepth 100000 in
set_option maxHeartbeats 4000000 in
theorem g_loop {RI : (Nat → Prop) → World → Nat → Nat → List Int → Prop} (C : RingOK RI) (w1 w : World) (a : Act) (av : Option Addr) (cv br bm bs : Nat) (p s : Nat → Nat) (L : List (Int × Int × Bool)) (hS : SR w1 (.slice av L.length cv) L) (hn : L.length ≤ 500) (P0 : List PanicEntry → Act → World → Prop) (Q1 : Exit → Act → World → Prop)
    (hexit : ∀ (a' : Act) w', a' = gframe av L.length cv br bm bs (fun k => a'.tmps.getD k undef) → (∃ F M V, Hid (LS RI w1 br bm bs w' p s F M M V) ∧ Hid (∀ k, (M k).length ≤ 500)) → Q1 (.exit 0) a' w') (ha : a = gframe av L.length cv br bm bs (fun k => a.tmps.getD k undef)) (hrel : GRel RI w1 L.length br bm bs p s (a.tmps.getD 10 undef) w) :
    Code.wp Try.prog (Code.loop gbody) (qmix P0 Q1) a w := by
  refine wp_loop (c := gbody) (GI RI w1 av L.length cv br bm bs p s) (Gmu L.length) (gi_mk a w ha hrel) (fun a' w' hI => ?_)
  obtain ⟨u, ⟨i, F, M, V, hi, hu, HLS, HLn⟩, rfl⟩ := hI
  by_cases hlt : i < L.length
  · obtain ⟨⟨xd, xn, xo⟩, hx⟩ : ∃ x, L[i]? = some x := ⟨_, List.getElem?_eq_getElem hlt⟩
    obtain ⟨aP, cP, eP, hP⟩ := hS
    obtain ⟨rfl, rfl⟩ : av = aP ∧ cv = cP := by simpa using eP
    obtain ⟨gP, oP, rfl, qP⟩ := hP (fun e => by rw [e] at hlt; simp at hlt)
    obtain ⟨c0, c1, c2⟩ := qP i _ hx
    obtain ⟨q, hq9, hq⟩ := kp9 xd
    by_cases q4 : q < 4
    · exact g_put C w1 w' u gP oP _ cv br bm bs p s F M V i P0 Q1 hlt hn hu xd xn xo (hide c0) (hide c1) (hide c2) HLS HLn q hq q4
    · by_cases q7 : q < 7
      · exact g_take C w1 w' u gP oP _ cv br bm bs p s F M V i P0 Q1 hlt hn hu xd xn xo (hide c0) (hide c1) (hide c2) HLS HLn q hq (by omega) q7
      · by_cases q8 : q = 7
        · exact g_all C w1 w' u gP oP _ cv br bm bs p s F M V i P0 Q1 hlt hn hu xd xn xo (hide c0) (hide c1) (hide c2) HLS HLn q hq q8
        · exact g_clear C w1 w' u gP oP _ cv br bm bs p s F M V i P0 Q1 hlt hn hu xd xn xo (hide c0) (hide c1) (hide c2) HLS HLn q hq (by omega)
  · obtain rfl : i = L.length := by omega
    have d1 : decide ((L.length : Int) < (L.length : Int)) = false := by simp
    have HX := hide hexit
    have HLE : Hid (∀ k, (M k).length ≤ 500) := hide (fun k => Nat.le_trans (HLn.out k) hn)
    clear hexit hS
    conv => arg 2; whnf
    unfold gframe
    go_wp2
    exact HX.out _ _ rfl ⟨F, M, V, HLS, HLE⟩
theorem wp_qmix {P : Program} {c : Code} {Q : Exit → Act → World → Prop} {a : Act} {w : World} (h0 : ∀ c t t' d w, Q (.panic c) ⟨t, d⟩ w = Q (.panic c) ⟨t', d⟩ w) (h : Code.wp P c (qmix (fun c a w => Q (.panic c) a w) Q) a w) : Code.wp P c Q a w := by
  rw [qmix_eq Q h0] at h
  exact h
theorem step_call_w {P : Program} {ops : Array Oper} {o : Oper} {a : Act} {w : World} {K : Act → World → Prop} {Q : Exit → Act → World → Prop} {E : Prop} (hw : Region.wanted o (yielded ops a.tmps) = true) (f : FuncId) (args : Array Value) (hrun : (execOp a.eval o).run P w = .ok (.enter f args) w)
    {R : Value → World → Prop} (hC : Calls P f args w fun e w' => ∃ v, e = .returned v ∧ R v w') (hK : ∀ v w', R v w' → K (a.put o.dst v) w') : if Region.wanted o (yielded ops a.tmps) = true then Oper.wp P o a w K Q else E := by
  rw [if_pos hw]
  unfold Oper.wp
  rw [hrun]
  show Calls P f args w _
  refine hC.mono ?_
  rintro e w' ⟨v, rfl, hr⟩
  exact hK v w' hr
set_option maxRecDepth 100000 in
set_option maxHeartbeats 4000000 in
theorem gdoes_any {RI : (Nat → Prop) → World → Nat → Nat → List Int → Prop} (C : RingOK RI) (a b : Int) (L : List (Int × Int × Bool)) (v : Value) (w : World) (h : SR w v L) (hll : L.length ≤ 9223372036854775807) :
    Calls Try.prog 3 #[.int .i64 a, .int .i64 b, v] w fun e w' => e = .returned (.bool true) ∧ Below w.heap.size w w' := by
  have HC := hide C
  have HS0 := hide h
  obtain ⟨av, cv, rfl, -⟩ := h
  clear C
  by_cases hl : 500 < L.length
  · have d0 : (500 : Int) < (L.length : Int) := by omega
    go_enter Try.func3, Try.ntmps3
    go_wp2_with fail
    refine (rgBegun_any HC.out _).mono ?_
    rintro e w1 ⟨rfl, hb1⟩
    go_wp2
    go_ret
    exact ⟨rfl, hb1⟩
  · have d0 : decide ((500 : Int) < (L.length : Int)) = false := by simp; omega
    go_enter Try.func3, Try.ntmps3
    go_wp2_with fail
    refine (rgBegun_any HC.out _).mono ?_
    rintro e w1 ⟨rfl, hb1⟩
    have HB1 := hide hb1
    clear hb1
    go_wp2_with fail
    refine (HC.out.new a _).mono ?_
    rintro e w2 ⟨p1, F1, rfl, hr2, hb2, hf2⟩
    have HR2 := hide (And.intro hr2 (And.intro hb2 hf2))
    clear hr2 hb2 hf2
    go_wp2_with fail
    refine (HC.out.new b _).mono ?_
    rintro e w3 ⟨p2, F2, rfl, hr3, hb3, hf3⟩
    have HLS := hide (LS.start HC.out HR2.out.1 hr3 HR2.out.2.1 hb3 HR2.out.2.2 hf3)
    have ea := max_nat a
    have eb := max_nat b
    have HE := hide (And.intro ea eb)
    have hs3 : w1.heap.size ≤ w3.heap.size := by have := HR2.out.2.1.size; have := hb3.size; omega
    clear hr3 hb3 hf3 HR2 ea eb
    go_upto_region 7 with fail
    go_cut [9] from 30 (fun v9 wx => v9 = .slice (some ⟨w3.heap.size + 1 + 1, 0, none⟩) 2 2 ∧ wx = (((w3.alloc (.cells #[.pointer (some ⟨p1, 0, none⟩), .pointer (some ⟨p2, 0, none⟩)] 24)).alloc (.cells #[.slice none 0 0, .slice none 0 0] 28)).alloc (.cells #[.int .i64 (a.toNat : Int), .int .i64 (b.toNat : Int)] 3)))
    case first =>
      by_cases ha : a < 0
      · have ea : (a.toNat : Int) = 0 := by omega
        by_cases hb : b < 0
        · have eb : (b.toNat : Int) = 0 := by omega
          go_wp2
          go_meet
          case rel => exact ⟨rfl, by rw [ea, eb]⟩
        · have eb : (b.toNat : Int) = b := by omega
          go_wp2
          go_meet
          case rel => exact ⟨rfl, by rw [ea, eb]⟩
      · have ea : (a.toNat : Int) = a := by omega
        by_cases hb : b < 0
        · have eb : (b.toNat : Int) = 0 := by omega
          go_wp2
          go_meet
          case rel => exact ⟨rfl, by rw [ea, eb]⟩
        · have eb : (b.toNat : Int) = b := by omega
          go_wp2
          go_meet
          case rel => exact ⟨rfl, by rw [ea, eb]⟩
    case rest =>
      obtain ⟨rfl, rfl⟩ := hcut
      generalize (((w3.alloc (.cells #[.pointer (some ⟨p1, 0, none⟩), .pointer (some ⟨p2, 0, none⟩)] 24)).alloc (.cells #[.slice none 0 0, .slice none 0 0] 28)).alloc (.cells #[.int .i64 (a.toNat : Int), .int .i64 (b.toNat : Int)] 3)) = W at *
      generalize hbr : w3.heap.size = br at *
      obtain ⟨bm, hbm⟩ : ∃ bm, br + 1 = bm := ⟨_, rfl⟩
      rw [hbm] at HLS ⊢
      obtain ⟨bs, hbs⟩ : ∃ bs, bm + 1 = bs := ⟨_, rfl⟩
      rw [hbs] at HLS ⊢
      have HS1 := hide (HS0.out.keep HB1.out)
      generalize (fun k => if k = 0 then p1 else p2) = p at HLS
      generalize (fun k => if k = 0 then a.toNat else b.toNat) = s at HLS
      generalize (fun k => if k = 0 then F1 else F2) = F at HLS
      clear HS0 hbm hbs hbr hs3 HE
      have HBW := hide HLS.out.bl
      go_wp2
      refine wp_qmix (fun _ _ _ _ _ => rfl) ?_
      refine g_loop HC.out w1 W _ av cv br bm bs p s L HS1.out (by omega) _ _ ?_ rfl ⟨0, F, _, _, Nat.zero_le _, rfl, HLS, hide (fun k => Nat.le_refl _)⟩
      rintro a' w' ha ⟨F', M, V, HLF, HLM⟩
      rw [ha]
      generalize (fun k => a'.tmps.getD k undef) = u
      clear HLS HBW ha
      unfold gframe
      obtain ⟨a0, c0, hv0⟩ := (HLF.out.row 0 (by decide)).form
      obtain ⟨a1, c1, hv1⟩ := (HLF.out.row 1 (by decide)).form
      have HV0 := hide hv0
      have HV1 := hide hv1
      clear hv0 hv1
      have hL0 : (M 0).length ≤ 500 := HLM.out 0
      have hL1 : (M 1).length ≤ 500 := HLM.out 1
      have r0 := HLF.out.rc 0 (by decide)
      have m0 := HLF.out.mc 0 (by decide)
      rw [HV0.out] at m0
      have HL4 := hide (HLF.out.keep HC.out (below_drewN (Below.refl _ _) 1 : Below w'.heap.size w' w'.drew))
      have CALL : Hid (∀ (k : Nat) (hk : k < 2) (x : World), (M k).length ≤ 500 → LS RI w1 br bm bs x p s F' M M V → Calls Try.prog 12 #[.pointer (some ⟨p k, 0, none⟩)] x fun e w' => ∃ v, e = .returned v ∧ (IR w' v (M k) ∧ Below x.heap.size x w')) := hide (fun k hk x hm hx => (HC.out.all (hx.ri k hk) (by omega)).mono (fun e w' h => by
        obtain ⟨a8, c8, rfl, h8, hb8⟩ := h
        exact ⟨_, rfl, ⟨_, _, rfl, fun hn => by obtain ⟨g5, h1, h2, h3⟩ := h8 hn; exact ⟨g5, 0, h1, fun j x hx => by rw [Nat.zero_add]; exact h3.cell j x hx⟩⟩, hb8⟩))
      have CSAME : Hid (∀ (k : Nat) (hk : k < 2) (x : World) (v : Value), (M k).length ≤ 500 → LS RI w1 br bm bs x p s F' M M V → IR x v (M k) → Calls Try.prog 13 #[v, V k] x fun e w' => ∃ v, e = .returned v ∧ (v = .bool true ∧ Below x.heap.size x w')) := hide (fun k hk x v hm hx hi => (same_any (M k) _ _ x (by omega) hi (hx.row k hk).ir).mono (fun e w' h => ⟨_, h.1, rfl, h.2⟩))
      have CA0 := hide (CALL.out 0 (by decide) w'.drew hL0 HL4.out)
      have HBE := hide HB1.out
      go_wp2
      go_region_law ((first
        | (have hdo := CS1; clear hdo; refine step_call_w (by rfl) 13 #[v7, .slice a1 (M 1).length c1] ?_ CS1.out ?_; (focus (go_simp; done)); rintro v8 w8 ⟨rfl, hb8⟩; have HB8 := hide (HL7.out.keep HC.out hb8).bl; clear hb8 CS1)
        | (have hdo := CA1; clear hdo; refine step_call_w (by rfl) 12 #[.pointer (some ⟨p 1, 0, none⟩)] ?_ CA1.out ?_; (focus (go_simp; done)); rintro v7 w7 ⟨hi7, hb7⟩; have HL7 := hide (HL6.out.keep HC.out hb7); have CS1 := hide (CSAME.out 1 (by decide) w7 v7 hL1 HL7.out hi7); rw [HV1.out] at CS1; have m17 := HL7.out.mc 1 (by decide); rw [HV1.out] at m17; clear hi7 hb7 CA1)
        | (have hdo := CS0; clear hdo; refine step_call_w (by rfl) 13 #[v5, .slice a0 (M 0).length c0] ?_ CS0.out ?_; (focus (go_simp; done)); rintro v6 w6 ⟨rfl, hb6⟩; have HL6 := hide (HL5.out.keep HC.out hb6); have CA1 := hide (CALL.out 1 (by decide) w6 hL1 HL6.out); have r16 := HL6.out.rc 1 (by decide); have m16 := HL6.out.mc 1 (by decide); rw [HV1.out] at m16; clear hb6 CS0)
        | (refine step_call_w (by rfl) 12 #[.pointer (some ⟨p 0, 0, none⟩)] ?_ CA0.out ?_; (focus (go_simp; done)); rintro v5 w5 ⟨hi5, hb5⟩; have HL5 := hide (HL4.out.keep HC.out hb5); have CS0 := hide (CSAME.out 0 (by decide) w5 v5 hL0 HL5.out hi5); rw [HV0.out] at CS0; have m05 := HL5.out.mc 0 (by decide); rw [HV0.out] at m05; clear hi5 hb5)))
      all_goals
        go_wp2
        go_ret
        exact ⟨rfl, HBE.out.trans (HB8.out.mono HBE.out.size)⟩
end Go.Proofs.Ytllgphjgadmmaaa

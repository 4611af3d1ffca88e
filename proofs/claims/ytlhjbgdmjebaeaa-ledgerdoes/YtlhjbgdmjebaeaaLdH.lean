import Derived.Test.YtlhjbgdmjebaeaaLdGb
import Derived.Test.YtlhjbgdmjebaeaaLdGm
import Derived.Test.YtlhjbgdmjebaeaaLdGg
import Derived.Test.YtlhjbgdmjebaeaaLdGo
import Derived.Test.YtlhjbgdmjebaeaaLdGu
/- The law LedgerDoes. -/
namespace Go.Proofs.Ytlhjbgdmjebaeaa
open Go.RowKit

theorem qmix_eq (Q : Exit → Act → World → Prop) (h : ∀ c t t' d w, Q (.panic c) ⟨t, d⟩ w = Q (.panic c) ⟨t', d⟩ w) : qmix (fun c a w => Q (.panic c) a w) Q = Q := by
  funext e a w
  cases e <;> first | rfl | exact h _ _ _ _ _
theorem wp_qmix {P : Program} {c : Code} {Q : Exit → Act → World → Prop} {a : Act} {w : World} (h0 : ∀ c t t' d w, Q (.panic c) ⟨t, d⟩ w = Q (.panic c) ⟨t', d⟩ w) (h : Code.wp P c (qmix (fun c a w => Q (.panic c) a w) Q) a w) : Code.wp P c Q a w := by
  rw [qmix_eq Q h0] at h
  exact h
set_option maxRecDepth 100000 in
set_option maxHeartbeats 4000000 in
theorem l_loop (w1 w : World) (a : Act) (av : Option Addr) (cv p q : Nat) (S : List Stp) (hS : SpR w1 (.slice av S.length cv) S) (hn : S.length ≤ 200) (P0 : List PanicEntry → Act → World → Prop) (Q1 : Exit → Act → World → Prop)
    (hexit : ∀ (a' : Act) w', a' = lframe av S.length cv p q (fun k => a'.tmps.getD k undef) → (∃ L va vb, Hid (L2 w1 w' p q va vb L L) ∧ Hid (L.length ≤ 200)) → Q1 (.exit 0) a' w') (ha : a = lframe av S.length cv p q (fun k => a.tmps.getD k undef)) (hrel : LRel w1 S.length p q (a.tmps.getD 5 undef) w) :
    Code.wp Try.prog (Code.loop lbody) (qmix P0 Q1) a w := by
  refine wp_loop (c := lbody) (LI w1 av S.length cv p q) (Lmu S.length) (li_mk a w ha hrel) (fun a' w' hI => ?_)
  obtain ⟨u, ⟨i, L, va, vb, hi, hu, HL, HF⟩, rfl⟩ := hI
  by_cases hlt : i < S.length
  · obtain ⟨x, hx⟩ : ∃ x, S[i]? = some x := ⟨_, List.getElem?_eq_getElem hlt⟩
    obtain ⟨aP, cP, eP, hP⟩ := hS
    obtain ⟨rfl, rfl⟩ : av = aP ∧ cv = cP := by simpa using eP
    obtain ⟨gP, oP, rfl, qP⟩ := hP (fun e => by rw [e] at hlt; simp at hlt)
    obtain ⟨c0, c1, c2, c3, c4⟩ := qP i _ hx
    obtain ⟨k, hk8, hk⟩ := kp8 x.d
    rcases (show k < 3 ∨ (k = 3 ∨ k = 4) ∨ k = 5 ∨ k = 6 ∨ k = 7 by omega) with h | h | h | h | h
    · exact l_roundb w1 w' u gP oP _ cv p q L va vb i P0 Q1 hlt hn hu x (hide c0) (hide c1) (hide c2) (hide c3) (hide c4) HL HF k hk h
    · exact l_roundm w1 w' u gP oP _ cv p q L va vb i P0 Q1 hlt hn hu x (hide c0) (hide c1) (hide c2) (hide c3) (hide c4) HL HF k hk h
    · exact l_roundg w1 w' u gP oP _ cv p q L va vb i P0 Q1 hlt hn hu x (hide c0) (hide c1) (hide c2) (hide c3) (hide c4) HL HF k hk h
    · exact l_roundo w1 w' u gP oP _ cv p q L va vb i P0 Q1 hlt hn hu x (hide c0) (hide c1) (hide c2) (hide c3) (hide c4) HL HF k hk h
    · exact l_roundu w1 w' u gP oP _ cv p q L va vb i P0 Q1 hlt hn hu x (hide c0) (hide c1) (hide c2) (hide c3) (hide c4) HL HF k hk h
  · obtain rfl : i = S.length := by omega
    have d1 : decide ((S.length : Int) < (S.length : Int)) = false := by simp
    have HX := hide hexit
    have HLE : Hid (L.length ≤ 200) := hide (Nat.le_trans HF.out.1 hn)
    clear hexit hS
    conv => arg 2; whnf
    unfold lframe
    go_wp2
    exact HX.out _ _ rfl ⟨L, va, vb, HL, HLE⟩
set_option maxRecDepth 100000 in
set_option maxHeartbeats 4000000 in
theorem ldoes_any (S : List Stp) (v : Value) (w : World) (h : SpR w v S) (hll : S.length ≤ 9223372036854775807) :
    Calls Try.prog 3 #[v] w fun e w' => e = .returned (.bool true) ∧ Below w.heap.size w w' := by
  have HS0 := hide h
  obtain ⟨av, cv, rfl, -⟩ := h
  by_cases hl : 200 < S.length
  · have d0 : (200 : Int) < (S.length : Int) := by omega
    go_enter Try.func3, Try.ntmps3
    go_wp2_with fail
    refine (llBegun_any _).mono ?_
    rintro e w1 ⟨rfl, hb1⟩
    go_wp2
    go_ret
    exact ⟨rfl, hb1⟩
  · have d0 : decide ((200 : Int) < (S.length : Int)) = false := by simp; omega
    go_enter Try.func3, Try.ntmps3
    go_wp2_with fail
    refine (llBegun_any _).mono ?_
    rintro e w1 ⟨rfl, hb1⟩
    have HB1 := hide hb1
    clear hb1
    go_wp2_with fail
    refine (ldNew_any _).mono ?_
    rintro e w2 ⟨rfl, hg2, hb2⟩
    have hs2 := hb2.size
    have hl2 := hg2.plt
    have HL2 : Hid (L2 w1 (w2.alloc (.cells #[.slice none 0 0, .slice none 0 0, .slice none 0 0, .slice none 0 0] 32)) w1.heap.size w2.heap.size (.slice none 0 0) (.slice none 0 0) [] []) := hide (by
      refine ⟨hg2.keep ((Below.refl _ _).alloc (Nat.le_refl _) _), ⟨by simp [go_sem], (fun k => by simp [go_sem]), hs2, World.ownsRow_nil _ _ _ _, (fun h => by cases h)⟩, by omega, (fun h => by cases h), (fun h => by cases h), (fun b h => by cases h), hb2.alloc hs2 _⟩)
    have HS1 := hide (HS0.out.keep HB1.out)
    clear hg2 hb2 HS0
    go_wp2
    refine wp_qmix (fun _ _ _ _ _ => rfl) ?_
    refine l_loop w1 _ _ av cv w1.heap.size w2.heap.size S HS1.out (by omega) _ _ ?_ rfl ⟨0, [], _, _, Nat.zero_le _, rfl, HL2, hide ⟨Nat.le_refl _, fun x hx => by cases hx⟩⟩
    rintro a' w' ha ⟨L, va, vb, HL, HN⟩
    rw [ha]
    generalize (fun k => a'.tmps.getD k undef) = u
    clear HL2 ha hs2 hl2
    unfold lframe
    obtain ⟨ab, cb, hvb⟩ := HL.out.b.form
    have hN := HN.out
    have CA : Hid (∀ X, Below w'.heap.size w' X → Calls Try.prog 17 #[.pointer (some ⟨w1.heap.size, 0, none⟩)] X fun e w'' => ∃ u, e = .returned u ∧ (EnR w'' u L ∧ Below X.heap.size X w'')) := hide (fun X hX => (all_any (HL.out.keep hX).g (by omega)).mono (fun e w'' h => by obtain ⟨u, h1, h2, h3⟩ := h; exact ⟨u, h1, own_enr h2, h3⟩))
    have CS : Hid (∀ X u, Below w'.heap.size w' X → EnR X u L → Calls Try.prog 18 #[u, vb] X fun e w'' => ∃ u, e = .returned u ∧ (u = .bool true ∧ Below X.heap.size X w'')) := hide (fun X u hX hu => (sameEnds_any L u vb X (by omega) hu (own_enr (HL.out.keep hX).b.o)).mono (fun e w'' h => ⟨_, h.1, rfl, h.2⟩))
    have qc := HL.out.b.c
    rw [hvb] at qc CS
    have HBL := hide HL.out.bl
    have HBE := hide HB1.out
    clear hvb HL
    have kc : Hid (Below w'.heap.size w' w'.drew) := hide (below_drewN (Below.refl _ _) 1)
    go_wp2
    go_region_held3 (fun w'' => w''.cell? ⟨w2.heap.size, 0, none⟩ = some (.slice ab L.length cb)) ((first | exact bsome kc.out qc | go_keep)) ((first
      | (have ha := iA; clear ha; refine step_call_w (by rfl) 18 #[vA, .slice ab L.length cb] ?_ (CS.out _ vA kc.out iA.out) ?_; (focus (go_simp; done)); rintro v7 w7 ⟨rfl, hb7⟩; have kc := hide (kc.out.trans (hb7.mono kc.out.size)); clear hb7 iA)
      | (refine step_call_w (by rfl) 17 #[.pointer (some ⟨w1.heap.size, 0, none⟩)] ?_ (CA.out _ kc.out) ?_; (focus (go_simp; done)); rintro vA wA ⟨hiA, hbA⟩; have iA := hide hiA; have kc := hide (kc.out.trans (hbA.mono kc.out.size)); clear hiA hbA)))
    all_goals
      go_wp2
      go_ret
      exact ⟨rfl, HBE.out.trans ((HBL.out.trans (kc.out.mono HBL.out.size)).mono HBE.out.size)⟩
end Go.Proofs.Ytlhjbgdmjebaeaa

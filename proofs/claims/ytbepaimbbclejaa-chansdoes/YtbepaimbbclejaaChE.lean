import Derived.Test.YtbepaimbbclejaaChD
/- The document's book: Waits. -/
namespace Go.Proofs.Ytbepaimbbclejaa
open Go.RowKit

/-- What holds of a book. -/
structure BOk (E : List En) (S : List Int) (I : List (List (Int × Int))) (G : List Bool) : Prop where
  lI : I.length = S.length
  lG : G.length = S.length
  ec : ∀ x ∈ E, 0 ≤ x.c ∧ x.c < (S.length : Int)
  ie : ∀ M ∈ I, ∀ i ∈ M, i.2 < (E.length : Int)
  le : E.length ≤ 100000
  ls : S.length ≤ 100000
  li : ∀ M ∈ I, M.length ≤ 100000
theorem Bk.there_some {E : List En} {e : Int} {s : Bool} (h : Bk.there E e s = true) : ∃ (k : Nat) (x : En), e = (k : Int) ∧ E[k]? = some x ∧ Ld.at E e = x ∧ x.s = s ∧ x.h ≠ -2 ∧ k < E.length := by
  unfold Bk.there at h
  rcases Ld.cs E e with ⟨k, x, rfl, hx, hk, h1, h2⟩ | ⟨h1, h2, -⟩
  · rw [h1, h2] at h
    simp only [Bool.true_and, Bool.and_eq_true, beq_iff_eq, Bool.not_eq_true', beq_eq_false_iff_ne] at h
    exact ⟨k, x, rfl, hx, h2, h.1, h.2, hk⟩
  · rw [h1] at h
    cases h
theorem BOk.chan {E : List En} {S : List Int} {I : List (List (Int × Int))} {G : List Bool} (o : BOk E S I G) {k : Nat} {x : En} (hx : E[k]? = some x) : ∃ (c : Nat) (sl : Int) (M : List (Int × Int)) (g : Bool), x.c = (c : Int) ∧ S[c]? = some sl ∧ I[c]? = some M ∧ G[c]? = some g ∧ c < S.length ∧ M.length ≤ 100000 := by
  obtain ⟨h1, h2⟩ := o.ec x (List.mem_of_getElem? hx)
  have hc : x.c.toNat < S.length := by omega
  have hI : I[x.c.toNat]? = some (I[x.c.toNat]'(by rw [o.lI]; exact hc)) := List.getElem?_eq_getElem _
  exact ⟨x.c.toNat, _, _, _, by omega, List.getElem?_eq_getElem hc, hI, List.getElem?_eq_getElem (by rw [o.lG]; exact hc), hc, o.li _ (List.mem_of_getElem? hI)⟩
/-- Must one wait? -/
def Bk.waits (E : List En) (S : List Int) (I : List (List (Int × Int))) (G : List Bool) (e : Int) : Bool :=
  if Bk.there E e true then !(G.getD (Ld.at E e).c.toNat false) && (decide (0 < S.getD (Ld.at E e).c.toNat 0) && decide (S.getD (Ld.at E e).c.toNat 0 ≤ ((I.getD (Ld.at E e).c.toNat []).length : Int)))
  else if Bk.there E e false then decide ((I.getD (Ld.at E e).c.toNat []).length = 0) && decide (0 < Bk.send E (Ld.at E e).c) else false
set_option maxRecDepth 100000
set_option maxHeartbeats 1000000
theorem bwaits_any {B : Nat} {w : World} {q : Nat} {ve vs vi vg : Value} {iv : List Value} {E : List En} {S : List Int} {I : List (List (Int × Int))} {G : List Bool} (h : BK B w q ve vs vi vg iv E S I G) (o : BOk E S I G) (e : Int) : Calls Try.prog 8 #[.pointer (some ⟨q, 0, none⟩), .int .i64 e] w fun r w' => r = .returned (.bool (Bk.waits E S I G e)) ∧ Below w.heap.size w w' := by
  have HT1 := hide (bthere_any h.lg e true)
  unfold Bk.waits
  cases h1 : Bk.there E e true with
  | true =>
    rw [h1] at HT1
    rw [if_pos rfl]
    obtain ⟨k, x, rfl, hx, ha, hs, hh, hk⟩ := Bk.there_some h1
    obtain ⟨c, sl, M, g, hc, hS, hI, hG, hcl, hMl⟩ := o.chan hx
    rw [ha, hc, Int.toNat_natCast]
    simp only [List.getD_eq_getElem?_getD, hS, hI, hG, Option.getD_some]
    have hlI := o.lI
    have hlG := o.lG
    have hlE := o.le
    have hlS := o.ls
    have HH := hide h
    have HX := hide (And.intro hx (And.intro hc (And.intro hS (And.intro hI hG))))
    clear h o hx hc hS hI hG h1 ha hs hh
    have R : Hid (∀ w', Below w.heap.size w w' → ∃ ge ce gs cs gi ci a ca gg cg, ve = .slice (some ⟨ge, 0, none⟩) E.length ce ∧ vs = .slice (some ⟨gs, 0, none⟩) S.length cs ∧ vi = .slice (some ⟨gi, 0, none⟩) I.length ci ∧ vg = .slice (some ⟨gg, 0, none⟩) G.length cg ∧ w'.cell? ⟨q, 0, none⟩ = some ve ∧ w'.cell? ⟨q, 1, none⟩ = some vs ∧ w'.cell? ⟨q, 2, none⟩ = some vi ∧ w'.cell? ⟨q, 3, none⟩ = some vg ∧ w'.cell? ⟨ge, k * 4, none⟩ = some (.int .i64 (c : Int)) ∧ w'.cell? ⟨gs, c, none⟩ = some (.int .i64 sl) ∧ w'.cell? ⟨gi, c, none⟩ = some (.slice a M.length ca) ∧ w'.cell? ⟨gg, c, none⟩ = some (.bool g)) := hide (fun w' hb => by
      have h' := HH.out.keep hb
      obtain ⟨e1, e2, e3, e4, e5⟩ := HX.out
      obtain ⟨ge, ce, v1, -, v2, -⟩ := h'.lg.at e1
      obtain ⟨gs, cs, v3, v4⟩ := h'.atS e3
      obtain ⟨gi, ci, a, ca, v5, -, v6, -⟩ := h'.atI e4
      obtain ⟨gg, cg, v7, v8, -⟩ := h'.atG e5
      exact ⟨ge, ce, gs, cs, gi, ci, a, ca, gg, cg, v1, v3, v5, v7, h'.c0, h'.c1, h'.c2, h'.c3, by rw [v2, e2], v4, v6, v8⟩)
    have k0 : (0 : Int) ≤ (k : Int) := by omega
    have k1 : (k : Int) < (E.length : Int) := by omega
    have c0' : (0 : Int) ≤ (c : Int) := by omega
    have c1' : (c : Int) < (S.length : Int) := by omega
    have c2' : (c : Int) < (I.length : Int) := by omega
    have c3' : (c : Int) < (G.length : Int) := by omega
    obtain ⟨b2, hb2⟩ : ∃ b, decide (0 < sl) = b := ⟨_, rfl⟩
    obtain ⟨b3, hb3⟩ : ∃ b, decide (sl ≤ (M.length : Int)) = b := ⟨_, rfl⟩
    rw [hb2, hb3]
    clear HX HH hlI hlG
    cases g with
    | true =>
      go_enter Try.func8, Try.ntmps8
      go_wp2_with fail
      refine HT1.out.mono ?_
      rintro r w1 ⟨rfl, hb⟩
      obtain ⟨ge, ce, gs, cs, gi, ci, a, ca, gg, cg, rfl, rfl, rfl, rfl, q0, q1, q2, q3, z0, z1, z2, z3⟩ := R.out w1 hb
      have HB := hide hb
      clear hb R
      go_wp2
      go_quiet (fail)
      go_wp2
      go_ret
      exact ⟨rfl, below_drewN HB.out _⟩
    | false =>
      cases b2 with
      | false =>
        go_enter Try.func8, Try.ntmps8
        go_wp2_with fail
        refine HT1.out.mono ?_
        rintro r w1 ⟨rfl, hb⟩
        obtain ⟨ge, ce, gs, cs, gi, ci, a, ca, gg, cg, rfl, rfl, rfl, rfl, q0, q1, q2, q3, z0, z1, z2, z3⟩ := R.out w1 hb
        have HB := hide hb
        clear hb R
        go_wp2
        go_quiet (fail)
        go_wp2
        go_ret
        exact ⟨rfl, below_drewN HB.out _⟩
      | true =>
        go_enter Try.func8, Try.ntmps8
        go_wp2_with fail
        refine HT1.out.mono ?_
        rintro r w1 ⟨rfl, hb⟩
        obtain ⟨ge, ce, gs, cs, gi, ci, a, ca, gg, cg, rfl, rfl, rfl, rfl, q0, q1, q2, q3, z0, z1, z2, z3⟩ := R.out w1 hb
        have HB := hide hb
        clear hb R
        go_wp2
        go_quiet (fail)
        go_wp2
        go_ret
        exact ⟨by first | rfl | rw [hb3] | simp [hb3], below_drewN HB.out _⟩
  | false =>
    rw [h1] at HT1
    rw [if_neg (by decide)]
    have HT2 := hide (fun w' (hb : Below w.heap.size w w') => bthere_any (h.keep hb).lg e false)
    cases h2 : Bk.there E e false with
    | false =>
      rw [h2] at HT2
      clear h o
      go_enter Try.func8, Try.ntmps8
      go_wp2_with fail
      refine HT1.out.mono ?_
      rintro r w1 ⟨rfl, hb⟩
      have HB := hide hb
      clear hb
      go_wp2_with fail
      refine (HT2.out _ HB.out).mono ?_
      rintro r w2 ⟨rfl, hb2⟩
      have HB2 := hide (btrans HB.out hb2)
      clear hb2
      go_wp2
      go_ret
      exact ⟨rfl, HB2.out⟩
    | true =>
      rw [h2] at HT2
      rw [if_pos rfl]
      obtain ⟨k, x, rfl, hx, ha, hs, hh, hk⟩ := Bk.there_some h2
      obtain ⟨c, sl, M, g, hc, hS, hI, hG, hcl, hMl⟩ := o.chan hx
      rw [ha, hc, Int.toNat_natCast]
      simp only [List.getD_eq_getElem?_getD, hI, Option.getD_some]
      have hlI := o.lI
      have hlE := o.le
      have HH := hide h
      have HX := hide (And.intro hx (And.intro hc hI))
      have HSN := hide (fun w' (hb : Below w.heap.size w w') => bsend_any (h.keep hb).lg (c : Int) (by omega))
      obtain ⟨b2, hb2⟩ : ∃ b, decide (M.length = 0) = b := ⟨_, rfl⟩
      have hb2' : ((M.length : Int) == 0) = b2 := by rw [← hb2, Bool.eq_iff_iff]; simp
      obtain ⟨b3, hb3⟩ : ∃ b, decide (0 < Bk.send E (c : Int)) = b := ⟨_, rfl⟩
      have hb3' : decide ((0 : Int) < (Bk.send E (c : Int) : Int)) = b3 := by rw [← hb3, Bool.eq_iff_iff]; simp
      rw [hb2, hb3]
      generalize Bk.send E (c : Int) = sn at *
      clear h o hx hc hS hI hG h1 h2 ha hs hh
      have k0 : (0 : Int) ≤ (k : Int) := by omega
      have k1 : (k : Int) < (E.length : Int) := by omega
      have c0' : (0 : Int) ≤ (c : Int) := by omega
      have c2' : (c : Int) < (I.length : Int) := by omega
      have R : Hid (∀ w', Below w.heap.size w w' → ∃ ge ce gi ci a ca, ve = .slice (some ⟨ge, 0, none⟩) E.length ce ∧ vi = .slice (some ⟨gi, 0, none⟩) I.length ci ∧ w'.cell? ⟨q, 0, none⟩ = some ve ∧ w'.cell? ⟨q, 2, none⟩ = some vi ∧ w'.cell? ⟨ge, k * 4, none⟩ = some (.int .i64 (c : Int)) ∧ w'.cell? ⟨gi, c, none⟩ = some (.slice a M.length ca)) := hide (fun w' hb => by
        have h' := HH.out.keep hb
        obtain ⟨e1, e2, e4⟩ := HX.out
        obtain ⟨ge, ce, v1, -, v2, -⟩ := h'.lg.at e1
        obtain ⟨gi, ci, a, ca, v5, -, v6, -⟩ := h'.atI e4
        exact ⟨ge, ce, gi, ci, a, ca, v1, v5, h'.c0, h'.c2, by rw [v2, e2], v6⟩)
      clear HX HH hlI
      cases b2 with
      | false =>
        go_enter Try.func8, Try.ntmps8
        go_wp2_with fail
        refine HT1.out.mono ?_
        rintro r w1 ⟨rfl, hb⟩
        have HB := hide hb
        clear hb
        go_wp2_with fail
        refine (HT2.out _ HB.out).mono ?_
        rintro r w2 ⟨rfl, hbb⟩
        have HB2 := hide (btrans HB.out hbb)
        obtain ⟨ge, ce, gi, ci, a, ca, rfl, rfl, q0, q2, z0, z2⟩ := R.out w2 HB2.out
        clear hbb R
        go_wp2
        go_ret
        exact ⟨rfl, HB2.out⟩
      | true =>
        go_enter Try.func8, Try.ntmps8
        go_wp2_with fail
        refine HT1.out.mono ?_
        rintro r w1 ⟨rfl, hb⟩
        have HB := hide hb
        clear hb
        go_wp2_with fail
        refine (HT2.out _ HB.out).mono ?_
        rintro r w2 ⟨rfl, hbb⟩
        have HB2 := hide (btrans HB.out hbb)
        obtain ⟨ge, ce, gi, ci, a, ca, rfl, rfl, q0, q2, z0, z2⟩ := R.out w2 HB2.out
        clear hbb R
        go_wp2_with fail
        refine (HSN.out _ HB2.out).mono ?_
        rintro r w3 ⟨rfl, hw3⟩
        subst w3
        go_wp2
        go_ret
        exact ⟨by first | rfl | rw [hb3'] | simp [hb3'], HB2.out⟩
end Go.Proofs.Ytbepaimbbclejaa

import Derived.Test.YtbepaimbbclejaaChC
import Derived.BigQuiet
import Derived.Deep.LoopGhost
/- The document's book: what reads it. -/
namespace Go.Proofs.Ytbepaimbbclejaa
open Go.RowKit

section
variable {B : Nat} {w : World} {q : Nat} {ve vs vi vg : Value} {iv : List Value} {E : List En} {S : List Int} {I : List (List (Int × Int))} {G : List Bool}
theorem own_one {t : TypeId} {v : Value} {n : Nat} {xs : List Value} (h : w.ownsRow B t 1 v n xs) {c : Nat} {u : Value} (hu : xs[c]? = some u) : ∃ g cap, v = .slice (some ⟨g, 0, none⟩) n cap ∧ w.cell? ⟨g, c, none⟩ = some u ∧ (∀ j, w.frozen? ⟨g, j, none⟩ = false) ∧ c < n := by
  have hl := h.1
  have hc := (List.getElem?_eq_some_iff.1 hu).1
  obtain ⟨g, cap, hv, -⟩ := h.form (by omega)
  subst hv
  exact ⟨g, cap, rfl, by rw [h.cellAt c (by omega)]; exact hu, fun j => h.frozenAt j, by omega⟩
theorem BK.atS (h : BK B w q ve vs vi vg iv E S I G) {c : Nat} {x : Int} (hx : S[c]? = some x) : ∃ g cap, vs = .slice (some ⟨g, 0, none⟩) S.length cap ∧ w.cell? ⟨g, c, none⟩ = some (.int .i64 x) := by
  obtain ⟨g, cap, h1, h2, -⟩ := own_one h.os (c := c) (u := .int .i64 x) (by rw [List.getElem?_map, hx]; rfl)
  exact ⟨g, cap, h1, h2⟩
theorem BK.atG (h : BK B w q ve vs vi vg iv E S I G) {c : Nat} {x : Bool} (hx : G[c]? = some x) : ∃ g cap, vg = .slice (some ⟨g, 0, none⟩) G.length cap ∧ w.cell? ⟨g, c, none⟩ = some (.bool x) ∧ (∀ j, w.frozen? ⟨g, j, none⟩ = false) := by
  obtain ⟨g, cap, h1, h2, h3, -⟩ := own_one h.og (c := c) (u := .bool x) (by rw [List.getElem?_map, hx]; rfl)
  exact ⟨g, cap, h1, h2, h3⟩
theorem BK.atI (h : BK B w q ve vs vi vg iv E S I G) {c : Nat} {M : List (Int × Int)} (hx : I[c]? = some M) : ∃ g cap a ca, vi = .slice (some ⟨g, 0, none⟩) I.length cap ∧ iv[c]? = some (.slice a M.length ca) ∧ w.cell? ⟨g, c, none⟩ = some (.slice a M.length ca) ∧ (∀ j, w.frozen? ⟨g, j, none⟩ = false) ∧ IO B w (.slice a M.length ca) M := by
  have hc := (List.getElem?_eq_some_iff.1 hx).1
  have hv : iv[c]? = some (iv[c]'(by rw [h.ivl]; exact hc)) := List.getElem?_eq_getElem _
  have hio := h.it c M _ hx hv
  obtain ⟨a, ca, e⟩ := hio.form
  rw [e] at hv hio
  obtain ⟨g, cap, h1, h2, h3, -⟩ := own_one h.oi hv
  exact ⟨g, cap, a, ca, h1, hv, h2, h3, hio⟩
end
/-- An end of that kind that was not dropped. -/
def Bk.there (E : List En) (e : Int) (s : Bool) : Bool := Ld.has E e && ((Ld.at E e).s == s && !((Ld.at E e).h == -2))
set_option maxRecDepth 100000
set_option maxHeartbeats 1000000
theorem bthere_any {B : Nat} {w : World} {q : Nat} {v : Value} {E : List En} (h : LG B w q v E) (e : Int) (s : Bool) : Calls Try.prog 25 #[.pointer (some ⟨q, 0, none⟩), .int .i64 e, .bool s] w fun r w' => r = .returned (.bool (Bk.there E e s)) ∧ Below w.heap.size w w' := by
  have HE := hide (rbAt_any h e)
  unfold Bk.there
  cases hh : Ld.has E e with
  | false =>
    rw [hh] at HE
    clear h
    go_enter Try.func25, Try.ntmps25
    go_wp2_with fail
    refine HE.out.mono ?_
    rintro e w1 ⟨rfl, hb⟩
    go_wp2
    go_ret
    exact ⟨rfl, hb.alloc hb.size _⟩
  | true =>
    rw [hh] at HE
    generalize Ld.at E e = y at *
    obtain ⟨sb, hs⟩ : ∃ b, (y.s == s) = b := ⟨_, rfl⟩
    rw [hs]
    clear h
    cases sb with
    | false =>
      go_enter Try.func25, Try.ntmps25
      go_wp2_with fail
      refine HE.out.mono ?_
      rintro e w1 ⟨rfl, hb⟩
      go_wp2
      go_ret
      exact ⟨rfl, hb.alloc hb.size _⟩
    | true =>
      go_enter Try.func25, Try.ntmps25
      go_wp2_with fail
      refine HE.out.mono ?_
      rintro e w1 ⟨rfl, hb⟩
      go_wp2
      go_ret
      exact ⟨rfl, hb.alloc hb.size _⟩
/-- How many of a channel's ends to send are not dropped. -/
def Bk.cnt (c : Int) (x : En) : Bool := x.c == c && (x.s && !(x.h == -2))
def Bk.send (E : List En) (c : Int) : Nat := (E.filter (Bk.cnt c)).length
theorem Bk.send_take {E : List En} {k : Nat} {x : En} (hx : E[k]? = some x) (c : Int) : Bk.send (E.take (k + 1)) c = Bk.send (E.take k) c + (if Bk.cnt c x then 1 else 0) := by
  unfold Bk.send
  rw [List.take_add_one, hx]
  show ((E.take k ++ [x]).filter _).length = _
  rw [List.filter_append, List.length_append]
  congr 1
  by_cases h : Bk.cnt c x
  · rw [if_pos h]; simp [h]
  · rw [if_neg h]; simp [h]
theorem Bk.send_le (E : List En) (c : Int) : Bk.send E c ≤ E.length := List.length_filter_le _ _
theorem bsend_any {B : Nat} {w : World} {q : Nat} {v : Value} {E : List En} (h : LG B w q v E) (c : Int) (hl : E.length ≤ 1000000) : Calls Try.prog 26 #[.pointer (some ⟨q, 0, none⟩), .int .i64 c] w fun r w' => r = .returned (.int .i64 (Bk.send E c : Int)) ∧ w' = w := by
  obtain ⟨a, cp, rfl⟩ := h.form
  have HL := hide h
  have hc := h.c
  clear h
  go_enter Try.func26, Try.ntmps26
  go_wp2
  go_loopg [5, 6] E.length (fun k nv iv wr => ∃ (i : Nat), k = E.length - i ∧ i ≤ E.length ∧ iv = .int .i64 i ∧ nv = .int .i64 (Bk.send (E.take i) c : Int) ∧ wr = w)
  case atStart => exact ⟨0, rfl, Nat.zero_le _, rfl, by simp [Bk.send], rfl⟩
  case round =>
    obtain ⟨i, rfl, hik, rfl, rfl, hwx⟩ := hrel
    subst wr
    by_cases hlt : i < E.length
    · have d1 : decide ((i : Int) < (E.length : Int)) = true := by simp; omega
      obtain ⟨x, hx⟩ : ∃ x, E[i]? = some x := ⟨_, List.getElem?_eq_getElem hlt⟩
      obtain ⟨g, c', e8, hgp, c1, c2, c3, c4, -⟩ := HL.out.at hx
      obtain ⟨rfl, rfl⟩ : a = some ⟨g, 0, none⟩ ∧ cp = c' := by simpa using e8
      have i0' : (0 : Int) ≤ (i : Int) := by omega
      have i1 : (i : Int) < (E.length : Int) := by omega
      have hot := Bk.send_take hx c
      have hnl : Bk.send (E.take i) c ≤ i := Nat.le_trans (Bk.send_le _ _) (by rw [List.length_take]; omega)
      unfold Bk.cnt at hot
      generalize Bk.send (E.take i) c = M at *
      obtain ⟨b1, h1⟩ : ∃ b, (x.c == c) = b := ⟨_, rfl⟩
      rw [h1] at hot
      have HT := hide hot
      clear hx e8 hot
      cases b1 with
      | false =>
        go_wp2
        go_roundg (E.length - (i + 1))
        case measure => omega
        case rel => exact ⟨i + 1, rfl, by omega, by go_num, by rw [HT.out]; rfl, rfl⟩
      | true =>
        obtain ⟨b2, h2⟩ : ∃ b, x.s = b := ⟨_, rfl⟩
        rw [h2] at c2 HT
        cases b2 with
        | false =>
          go_wp2
          go_roundg (E.length - (i + 1))
          case measure => omega
          case rel => exact ⟨i + 1, rfl, by omega, by go_num, by rw [HT.out]; rfl, rfl⟩
        | true =>
          obtain ⟨b3, h3⟩ : ∃ b, (x.h == -2) = b := ⟨_, rfl⟩
          have h3' : (x.h != -2) = !b3 := by rw [← h3]; rfl
          rw [h3] at HT
          cases b3 with
          | false =>
            go_wp2
            go_roundg (E.length - (i + 1))
            case measure => omega
            case rel => exact ⟨i + 1, rfl, by omega, by go_num, by rw [HT.out]; go_num, rfl⟩
          | true =>
            go_wp2
            go_roundg (E.length - (i + 1))
            case measure => omega
            case rel => exact ⟨i + 1, rfl, by omega, by go_num, by rw [HT.out]; rfl, rfl⟩
    · obtain rfl : i = E.length := by omega
      have d1 : decide ((E.length : Int) < (E.length : Int)) = false := by simp
      rw [List.take_length]
      go_wp2
      go_ret
      exact ⟨rfl, rfl⟩
end Go.Proofs.Ytbepaimbbclejaa
/- The document's book: Waits. -/
namespace Go.Proofs.Ytbepaimbbclejaa
open Go.RowKit

/-- What holds of a book. -/
structure BOk (E : List En) (S : List Int) (I : List (List (Int × Int))) (G : List Bool) : Prop where
  lI : I.length = S.length
  lG : G.length = S.length
  ec : ∀ x ∈ E, 0 ≤ x.c ∧ x.c < (S.length : Int)
  ie : ∀ M ∈ I, ∀ i ∈ M, i.2 < (E.length : Int)
  le : E.length ≤ 100000
  ls : S.length ≤ 100000
  li : ∀ M ∈ I, M.length ≤ 100000
theorem Bk.there_some {E : List En} {e : Int} {s : Bool} (h : Bk.there E e s = true) : ∃ (k : Nat) (x : En), e = (k : Int) ∧ E[k]? = some x ∧ Ld.at E e = x ∧ x.s = s ∧ x.h ≠ -2 ∧ k < E.length := by
  unfold Bk.there at h
  rcases Ld.cs E e with ⟨k, x, rfl, hx, hk, h1, h2⟩ | ⟨h1, h2, -⟩
  · rw [h1, h2] at h
    simp only [Bool.true_and, Bool.and_eq_true, beq_iff_eq, Bool.not_eq_true', beq_eq_false_iff_ne] at h
    exact ⟨k, x, rfl, hx, h2, h.1, h.2, hk⟩
  · rw [h1] at h
    cases h
theorem BOk.chan {E : List En} {S : List Int} {I : List (List (Int × Int))} {G : List Bool} (o : BOk E S I G) {k : Nat} {x : En} (hx : E[k]? = some x) : ∃ (c : Nat) (sl : Int) (M : List (Int × Int)) (g : Bool), x.c = (c : Int) ∧ S[c]? = some sl ∧ I[c]? = some M ∧ G[c]? = some g ∧ c < S.length ∧ M.length ≤ 100000 := by
  obtain ⟨h1, h2⟩ := o.ec x (List.mem_of_getElem? hx)
  have hc : x.c.toNat < S.length := by omega
  have hI : I[x.c.toNat]? = some (I[x.c.toNat]'(by rw [o.lI]; exact hc)) := List.getElem?_eq_getElem _
  exact ⟨x.c.toNat, _, _, _, by omega, List.getElem?_eq_getElem hc, hI, List.getElem?_eq_getElem (by rw [o.lG]; exact hc), hc, o.li _ (List.mem_of_getElem? hI)⟩
/-- Must one wait? -/
def Bk.waits (E : List En) (S : List Int) (I : List (List (Int × Int))) (G : List Bool) (e : Int) : Bool :=
  if Bk.there E e true then !(G.getD (Ld.at E e).c.toNat false) && (decide (0 < S.getD (Ld.at E e).c.toNat 0) && decide (S.getD (Ld.at E e).c.toNat 0 ≤ ((I.getD (Ld.at E e).c.toNat []).length : Int)))
  else if Bk.there E e false then decide ((I.getD (Ld.at E e).c.toNat []).length = 0) && decide (0 < Bk.send E (Ld.at E e).c) else false
set_option maxRecDepth 100000
set_option maxHeartbeats 1000000
theorem bwaits_any {B : Nat} {w : World} {q : Nat} {ve vs vi vg : Value} {iv : List Value} {E : List En} {S : List Int} {I : List (List (Int × Int))} {G : List Bool} (h : BK B w q ve vs vi vg iv E S I G) (o : BOk E S I G) (e : Int) : Calls Try.prog 8 #[.pointer (some ⟨q, 0, none⟩), .int .i64 e] w fun r w' => r = .returned (.bool (Bk.waits E S I G e)) ∧ Below w.heap.size w w' := by
  have HT1 := hide (bthere_any h.lg e true)
  unfold Bk.waits
  cases h1 : Bk.there E e true with
  | true =>
    rw [h1] at HT1
    rw [if_pos rfl]
    obtain ⟨k, x, rfl, hx, ha, hs, hh, hk⟩ := Bk.there_some h1
    obtain ⟨c, sl, M, g, hc, hS, hI, hG, hcl, hMl⟩ := o.chan hx
    rw [ha, hc, Int.toNat_natCast]
    simp only [List.getD_eq_getElem?_getD, hS, hI, hG, Option.getD_some]
    have hlI := o.lI
    have hlG := o.lG
    have hlE := o.le
    have hlS := o.ls
    have HH := hide h
    have HX := hide (And.intro hx (And.intro hc (And.intro hS (And.intro hI hG))))
    clear h o hx hc hS hI hG h1 ha hs hh
    have R : Hid (∀ w', Below w.heap.size w w' → ∃ ge ce gs cs gi ci a ca gg cg, ve = .slice (some ⟨ge, 0, none⟩) E.length ce ∧ vs = .slice (some ⟨gs, 0, none⟩) S.length cs ∧ vi = .slice (some ⟨gi, 0, none⟩) I.length ci ∧ vg = .slice (some ⟨gg, 0, none⟩) G.length cg ∧ w'.cell? ⟨q, 0, none⟩ = some ve ∧ w'.cell? ⟨q, 1, none⟩ = some vs ∧ w'.cell? ⟨q, 2, none⟩ = some vi ∧ w'.cell? ⟨q, 3, none⟩ = some vg ∧ w'.cell? ⟨ge, k * 4, none⟩ = some (.int .i64 (c : Int)) ∧ w'.cell? ⟨gs, c, none⟩ = some (.int .i64 sl) ∧ w'.cell? ⟨gi, c, none⟩ = some (.slice a M.length ca) ∧ w'.cell? ⟨gg, c, none⟩ = some (.bool g)) := hide (fun w' hb => by
      have h' := HH.out.keep hb
      obtain ⟨e1, e2, e3, e4, e5⟩ := HX.out
      obtain ⟨ge, ce, v1, -, v2, -⟩ := h'.lg.at e1
      obtain ⟨gs, cs, v3, v4⟩ := h'.atS e3
      obtain ⟨gi, ci, a, ca, v5, -, v6, -⟩ := h'.atI e4
      obtain ⟨gg, cg, v7, v8, -⟩ := h'.atG e5
      exact ⟨ge, ce, gs, cs, gi, ci, a, ca, gg, cg, v1, v3, v5, v7, h'.c0, h'.c1, h'.c2, h'.c3, by rw [v2, e2], v4, v6, v8⟩)
    have k0 : (0 : Int) ≤ (k : Int) := by omega
    have k1 : (k : Int) < (E.length : Int) := by omega
    have c0' : (0 : Int) ≤ (c : Int) := by omega
    have c1' : (c : Int) < (S.length : Int) := by omega
    have c2' : (c : Int) < (I.length : Int) := by omega
    have c3' : (c : Int) < (G.length : Int) := by omega
    obtain ⟨b2, hb2⟩ : ∃ b, decide (0 < sl) = b := ⟨_, rfl⟩
    obtain ⟨b3, hb3⟩ : ∃ b, decide (sl ≤ (M.length : Int)) = b := ⟨_, rfl⟩
    rw [hb2, hb3]
    clear HX HH hlI hlG
    cases g with
    | true =>
      go_enter Try.func8, Try.ntmps8
      go_wp2_with fail
      refine HT1.out.mono ?_
      rintro r w1 ⟨rfl, hb⟩
      obtain ⟨ge, ce, gs, cs, gi, ci, a, ca, gg, cg, rfl, rfl, rfl, rfl, q0, q1, q2, q3, z0, z1, z2, z3⟩ := R.out w1 hb
      have HB := hide hb
      clear hb R
      go_wp2
      go_quiet (fail)
      go_wp2
      go_ret
      exact ⟨rfl, below_drewN HB.out _⟩
    | false =>
      cases b2 with
      | false =>
        go_enter Try.func8, Try.ntmps8
        go_wp2_with fail
        refine HT1.out.mono ?_
        rintro r w1 ⟨rfl, hb⟩
        obtain ⟨ge, ce, gs, cs, gi, ci, a, ca, gg, cg, rfl, rfl, rfl, rfl, q0, q1, q2, q3, z0, z1, z2, z3⟩ := R.out w1 hb
        have HB := hide hb
        clear hb R
        go_wp2
        go_quiet (fail)
        go_wp2
        go_ret
        exact ⟨rfl, below_drewN HB.out _⟩
      | true =>
        go_enter Try.func8, Try.ntmps8
        go_wp2_with fail
        refine HT1.out.mono ?_
        rintro r w1 ⟨rfl, hb⟩
        obtain ⟨ge, ce, gs, cs, gi, ci, a, ca, gg, cg, rfl, rfl, rfl, rfl, q0, q1, q2, q3, z0, z1, z2, z3⟩ := R.out w1 hb
        have HB := hide hb
        clear hb R
        go_wp2
        go_quiet (fail)
        go_wp2
        go_ret
        exact ⟨by first | rfl | rw [hb3] | simp [hb3], below_drewN HB.out _⟩
  | false =>
    rw [h1] at HT1
    rw [if_neg (by decide)]
    have HT2 := hide (fun w' (hb : Below w.heap.size w w') => bthere_any (h.keep hb).lg e false)
    cases h2 : Bk.there E e false with
    | false =>
      rw [h2] at HT2
      clear h o
      go_enter Try.func8, Try.ntmps8
      go_wp2_with fail
      refine HT1.out.mono ?_
      rintro r w1 ⟨rfl, hb⟩
      have HB := hide hb
      clear hb
      go_wp2_with fail
      refine (HT2.out _ HB.out).mono ?_
      rintro r w2 ⟨rfl, hb2⟩
      have HB2 := hide (btrans HB.out hb2)
      clear hb2
      go_wp2
      go_ret
      exact ⟨rfl, HB2.out⟩
    | true =>
      rw [h2] at HT2
      rw [if_pos rfl]
      obtain ⟨k, x, rfl, hx, ha, hs, hh, hk⟩ := Bk.there_some h2
      obtain ⟨c, sl, M, g, hc, hS, hI, hG, hcl, hMl⟩ := o.chan hx
      rw [ha, hc, Int.toNat_natCast]
      simp only [List.getD_eq_getElem?_getD, hI, Option.getD_some]
      have hlI := o.lI
      have hlE := o.le
      have HH := hide h
      have HX := hide (And.intro hx (And.intro hc hI))
      have HSN := hide (fun w' (hb : Below w.heap.size w w') => bsend_any (h.keep hb).lg (c : Int) (by omega))
      obtain ⟨b2, hb2⟩ : ∃ b, decide (M.length = 0) = b := ⟨_, rfl⟩
      have hb2' : ((M.length : Int) == 0) = b2 := by rw [← hb2, Bool.eq_iff_iff]; simp
      obtain ⟨b3, hb3⟩ : ∃ b, decide (0 < Bk.send E (c : Int)) = b := ⟨_, rfl⟩
      have hb3' : decide ((0 : Int) < (Bk.send E (c : Int) : Int)) = b3 := by rw [← hb3, Bool.eq_iff_iff]; simp
      rw [hb2, hb3]
      generalize Bk.send E (c : Int) = sn at *
      clear h o hx hc hS hI hG h1 h2 ha hs hh
      have k0 : (0 : Int) ≤ (k : Int) := by omega
      have k1 : (k : Int) < (E.length : Int) := by omega
      have c0' : (0 : Int) ≤ (c : Int) := by omega
      have c2' : (c : Int) < (I.length : Int) := by omega
      have R : Hid (∀ w', Below w.heap.size w w' → ∃ ge ce gi ci a ca, ve = .slice (some ⟨ge, 0, none⟩) E.length ce ∧ vi = .slice (some ⟨gi, 0, none⟩) I.length ci ∧ w'.cell? ⟨q, 0, none⟩ = some ve ∧ w'.cell? ⟨q, 2, none⟩ = some vi ∧ w'.cell? ⟨ge, k * 4, none⟩ = some (.int .i64 (c : Int)) ∧ w'.cell? ⟨gi, c, none⟩ = some (.slice a M.length ca)) := hide (fun w' hb => by
        have h' := HH.out.keep hb
        obtain ⟨e1, e2, e4⟩ := HX.out
        obtain ⟨ge, ce, v1, -, v2, -⟩ := h'.lg.at e1
        obtain ⟨gi, ci, a, ca, v5, -, v6, -⟩ := h'.atI e4
        exact ⟨ge, ce, gi, ci, a, ca, v1, v5, h'.c0, h'.c2, by rw [v2, e2], v6⟩)
      clear HX HH hlI
      cases b2 with
      | false =>
        go_enter Try.func8, Try.ntmps8
        go_wp2_with fail
        refine HT1.out.mono ?_
        rintro r w1 ⟨rfl, hb⟩
        have HB := hide hb
        clear hb
        go_wp2_with fail
        refine (HT2.out _ HB.out).mono ?_
        rintro r w2 ⟨rfl, hbb⟩
        have HB2 := hide (btrans HB.out hbb)
        obtain ⟨ge, ce, gi, ci, a, ca, rfl, rfl, q0, q2, z0, z2⟩ := R.out w2 HB2.out
        clear hbb R
        go_wp2
        go_ret
        exact ⟨rfl, HB2.out⟩
      | true =>
        go_enter Try.func8, Try.ntmps8
        go_wp2_with fail
        refine HT1.out.mono ?_
        rintro r w1 ⟨rfl, hb⟩
        have HB := hide hb
        clear hb
        go_wp2_with fail
        refine (HT2.out _ HB.out).mono ?_
        rintro r w2 ⟨rfl, hbb⟩
        have HB2 := hide (btrans HB.out hbb)
        obtain ⟨ge, ce, gi, ci, a, ca, rfl, rfl, q0, q2, z0, z2⟩ := R.out w2 HB2.out
        clear hbb R
        go_wp2_with fail
        refine (HSN.out _ HB2.out).mono ?_
        rintro r w3 ⟨rfl, hw3⟩
        subst w3
        go_wp2
        go_ret
        exact ⟨by first | rfl | rw [hb3'] | simp [hb3'], HB2.out⟩
end Go.Proofs.Ytbepaimbbclejaa

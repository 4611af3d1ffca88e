import Derived.Test.YtbepaimbbclejaaChC
import Derived.BigQuiet
import Derived.Deep.LoopGhost
/- The document's book: what reads it. -/
namespace Go.Proofs.Ytbepaimbbclejaa
open Go.RowKit

section
variable {B : Nat} {w : World} {q : Nat} {ve vs vi vg : Value} {iv : List Value} {E : List En} {S : List Int} {I : List (List (Int × Int))} {G : List Bool}
theorem own_one {t : TypeId} {v : Value} {n : Nat} {xs : List Value} (h : w.ownsRow B t 1 v n xs) {c : Nat} {u : Value} (hu : xs[c]? = some u) : ∃ g cap, v = .slice (some ⟨g, 0, none⟩) n cap ∧ w.cell? ⟨g, c, none⟩ = some u ∧ (∀ j, w.frozen? ⟨g, j, none⟩ = false) ∧ c < n := by
  have hl := h.1
  have hc := (List.getElem?_eq_some_iff.1 hu).1
  obtain ⟨g, cap, hv, -⟩ := h.form (by omega)
  subst hv
  exact ⟨g, cap, rfl, by rw [h.cellAt c (by omega)]; exact hu, fun j => h.frozenAt j, by omega⟩
theorem BK.atS (h : BK B w q ve vs vi vg iv E S I G) {c : Nat} {x : Int} (hx : S[c]? = some x) : ∃ g cap, vs = .slice (some ⟨g, 0, none⟩) S.length cap ∧ w.cell? ⟨g, c, none⟩ = some (.int .i64 x) := by
  obtain ⟨g, cap, h1, h2, -⟩ := own_one h.os (c := c) (u := .int .i64 x) (by rw [List.getElem?_map, hx]; rfl)
  exact ⟨g, cap, h1, h2⟩
theorem BK.atG (h : BK B w q ve vs vi vg iv E S I G) {c : Nat} {x : Bool} (hx : G[c]? = some x) : ∃ g cap, vg = .slice (some ⟨g, 0, none⟩) G.length cap ∧ w.cell? ⟨g, c, none⟩ = some (.bool x) ∧ (∀ j, w.frozen? ⟨g, j, none⟩ = false) := by
  obtain ⟨g, cap, h1, h2, h3, -⟩ := own_one h.og (c := c) (u := .bool x) (by rw [List.getElem?_map, hx]; rfl)
  exact ⟨g, cap, h1, h2, h3⟩
theorem BK.atI (h : BK B w q ve vs vi vg iv E S I G) {c : Nat} {M : List (Int × Int)} (hx : I[c]? = some M) : ∃ g cap a ca, vi = .slice (some ⟨g, 0, none⟩) I.length cap ∧ iv[c]? = some (.slice a M.length ca) ∧ w.cell? ⟨g, c, none⟩ = some (.slice a M.length ca) ∧ (∀ j, w.frozen? ⟨g, j, none⟩ = false) ∧ IO B w (.slice a M.length ca) M := by
  have hc := (List.getElem?_eq_some_iff.1 hx).1
  have hv : iv[c]? = some (iv[c]'(by rw [h.ivl]; exact hc)) := List.getElem?_eq_getElem _
  have hio := h.it c M _ hx hv
  obtain ⟨a, ca, e⟩ := hio.form
  rw [e] at hv hio
  obtain ⟨g, cap, h1, h2, h3, -⟩ := own_one h.oi hv
  exact ⟨g, cap, a, ca, h1, hv, h2, h3, hio⟩
end
/-- An end of that kind that was not dropped. -/
def Bk.there (E : List En) (e : Int) (s : Bool) : Bool := Ld.has E e && ((Ld.at E e).s == s && !((Ld.at E e).h == -2))
set_option maxRecDepth 100000
set_option maxHeartbeats 1000000
theorem bthere_any {B : Nat} {w : World} {q : Nat} {v : Value} {E : List En} (h : LG B w q v E) (e : Int) (s : Bool) : Calls Try.prog 25 #[.pointer (some ⟨q, 0, none⟩), .int .i64 e, .bool s] w fun r w' => r = .returned (.bool (Bk.there E e s)) ∧ Below w.heap.size w w' := by
  have HE := hide (rbAt_any h e)
  unfold Bk.there
  cases hh : Ld.has E e with
  | false =>
    rw [hh] at HE
    clear h
    go_enter Try.func25, Try.ntmps25
    go_wp2_with fail
    refine HE.out.mono ?_
    rintro e w1 ⟨rfl, hb⟩
    go_wp2
    go_ret
    exact ⟨rfl, hb.alloc hb.size _⟩
  | true =>
    rw [hh] at HE
    generalize Ld.at E e = y at *
    obtain ⟨sb, hs⟩ : ∃ b, (y.s == s) = b := ⟨_, rfl⟩
    rw [hs]
    clear h
    cases sb with
    | false =>
      go_enter Try.func25, Try.ntmps25
      go_wp2_with fail
      refine HE.out.mono ?_
      rintro e w1 ⟨rfl, hb⟩
      go_wp2
      go_ret
      exact ⟨rfl, hb.alloc hb.size _⟩
    | true =>
      go_enter Try.func25, Try.ntmps25
      go_wp2_with fail
      refine HE.out.mono ?_
      rintro e w1 ⟨rfl, hb⟩
      go_wp2
      go_ret
      exact ⟨rfl, hb.alloc hb.size _⟩
/-- How many of a channel's ends to send are not dropped. -/
def Bk.cnt (c : Int) (x : En) : Bool := x.c == c && (x.s && !(x.h == -2))
def Bk.send (E : List En) (c : Int) : Nat := (E.filter (Bk.cnt c)).length
theorem Bk.send_take {E : List En} {k : Nat} {x : En} (hx : E[k]? = some x) (c : Int) : Bk.send (E.take (k + 1)) c = Bk.send (E.take k) c + (if Bk.cnt c x then 1 else 0) := by
  unfold Bk.send
  rw [List.take_add_one, hx]
  show ((E.take k ++ [x]).filter _).length = _
  rw [List.filter_append, List.length_append]
  congr 1
  by_cases h : Bk.cnt c x
  · rw [if_pos h]; simp [h]
  · rw [if_neg h]; simp [h]
theorem Bk.send_le (E : List En) (c : Int) : Bk.send E c ≤ E.length := List.length_filter_le _ _
theorem bsend_any {B : Nat} {w : World} {q : Nat} {v : Value} {E : List En} (h : LG B w q v E) (c : Int) (hl : E.length ≤ 1000000) : Calls Try.prog 26 #[.pointer (some ⟨q, 0, none⟩), .int .i64 c] w fun r w' => r = .returned (.int .i64 (Bk.send E c : Int)) ∧ w' = w := by
  obtain ⟨a, cp, rfl⟩ := h.form
  have HL := hide h
  have hc := h.c
  clear h
  go_enter Try.func26, Try.ntmps26
  go_wp2
  go_loopg [5, 6] E.length (fun k nv iv wr => ∃ (i : Nat), k = E.length - i ∧ i ≤ E.length ∧ iv = .int .i64 i ∧ nv = .int .i64 (Bk.send (E.take i) c : Int) ∧ wr = w)
  case atStart => exact ⟨0, rfl, Nat.zero_le _, rfl, by simp [Bk.send], rfl⟩
  case round =>
    obtain ⟨i, rfl, hik, rfl, rfl, hwx⟩ := hrel
    subst wr
    by_cases hlt : i < E.length
    · have d1 : decide ((i : Int) < (E.length : Int)) = true := by simp; omega
      obtain ⟨x, hx⟩ : ∃ x, E[i]? = some x := ⟨_, List.getElem?_eq_getElem hlt⟩
      obtain ⟨g, c', e8, hgp, c1, c2, c3, c4, -⟩ := HL.out.at hx
      obtain ⟨rfl, rfl⟩ : a = some ⟨g, 0, none⟩ ∧ cp = c' := by simpa using e8
      have i0' : (0 : Int) ≤ (i : Int) := by omega
      have i1 : (i : Int) < (E.length : Int) := by omega
      have hot := Bk.send_take hx c
      have hnl : Bk.send (E.take i) c ≤ i := Nat.le_trans (Bk.send_le _ _) (by rw [List.length_take]; omega)
      unfold Bk.cnt at hot
      generalize Bk.send (E.take i) c = M at *
      obtain ⟨b1, h1⟩ : ∃ b, (x.c == c) = b := ⟨_, rfl⟩
      rw [h1] at hot
      have HT := hide hot
      clear hx e8 hot
      cases b1 with
      | false =>
        go_wp2
        go_roundg (E.length - (i + 1))
        case measure => omega
        case rel => exact ⟨i + 1, rfl, by omega, by go_num, by rw [HT.out]; rfl, rfl⟩
      | true =>
        obtain ⟨b2, h2⟩ : ∃ b, x.s = b := ⟨_, rfl⟩
        rw [h2] at c2 HT
        cases b2 with
        | false =>
          go_wp2
          go_roundg (E.length - (i + 1))
          case measure => omega
          case rel => exact ⟨i + 1, rfl, by omega, by go_num, by rw [HT.out]; rfl, rfl⟩
        | true =>
          obtain ⟨b3, h3⟩ : ∃ b, (x.h == -2) = b := ⟨_, rfl⟩
          have h3' : (x.h != -2) = !b3 := by rw [← h3]; rfl
          rw [h3] at HT
          cases b3 with
          | false =>
            go_wp2
            go_roundg (E.length - (i + 1))
            case measure => omega
            case rel => exact ⟨i + 1, rfl, by omega, by go_num, by rw [HT.out]; go_num, rfl⟩
          | true =>
            go_wp2
            go_roundg (E.length - (i + 1))
            case measure => omega
            case rel => exact ⟨i + 1, rfl, by omega, by go_num, by rw [HT.out]; rfl, rfl⟩
    · obtain rfl : i = E.length := by omega
      have d1 : decide ((E.length : Int) < (E.length : Int)) = false := by simp
      rw [List.take_length]
      go_wp2
      go_ret
      exact ⟨rfl, rfl⟩
end Go.Proofs.Ytbepaimbbclejaa

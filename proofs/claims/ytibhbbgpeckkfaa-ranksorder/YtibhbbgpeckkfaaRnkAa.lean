import Derived.Test.YtibhbbgpeckkfaaRnkZ
import Derived.Test.YtibhbbgpeckkfaaRnkQ
/- Package ranks: a graph made of its edges. -/
namespace Go.Proofs.Ytibhbbgpeckkfaa
open Go.RowKit

theorem er_news {w : World} {g o : Nat} {L : List (Int × Int)} (h : ∀ (k : Nat) x, L[k]? = some x → w.cell? ⟨g, o + k * 2, none⟩ = some (.int .i64 x.1) ∧ w.cell? ⟨g, o + k * 2 + 1, none⟩ = some (.int .i64 x.2)) :
    ∀ j u, (fcells L)[j]? = some u → w.cell? ((⟨g, o, none⟩ : Addr).add j) = some u := by
  intro j u hu
  have hj : j < L.length * 2 := by rw [← fcells_len]; exact (List.getElem?_eq_some_iff.1 hu).1
  have hadd : (⟨g, o, none⟩ : Addr).add j = ⟨g, o + j, none⟩ := by unfold Addr.add; split <;> simp_all
  rw [hadd]
  have hx : L[j / 2]? = some (L[j / 2]'(by omega)) := List.getElem?_eq_getElem (by omega)
  obtain ⟨h1, h2⟩ := h (j / 2) _ hx
  obtain ⟨c, d⟩ := fcells_at L (j / 2) (by omega)
  rw [hx] at c d
  rcases Nat.mod_two_eq_zero_or_one j with e | e
  · rw [show j / 2 * 2 = j from by omega] at c h1
    rw [hu] at c
    rw [h1, c]
    rfl
  · rw [show j / 2 * 2 + 1 = j from by omega] at d
    rw [show o + j / 2 * 2 + 1 = o + j from by omega] at h2
    rw [hu] at d
    rw [h2, d]
    rfl
set_option maxRecDepth 100000 in
set_option maxHeartbeats 1000000 in
theorem clone_some (L : List (Int × Int)) (g o c : Nat) (w : World) (h : ∀ (k : Nat) x, L[k]? = some x → w.cell? ⟨g, o + k * 2, none⟩ = some (.int .i64 x.1) ∧ w.cell? ⟨g, o + k * 2 + 1, none⟩ = some (.int .i64 x.2)) (hl : L.length ≤ 20000) (h0 : 0 < L.length) :
    Calls Try.prog 22 #[.slice (some ⟨g, o, none⟩) L.length c] w fun e w' => ∃ v, e = .returned v ∧ w'.ownsRow w.heap.size 30 2 v L.length (fcells L) ∧ Below w.heap.size w w' := by
  obtain ⟨i0, hi, hz0, hz1, hz2⟩ := info_parts Try.infoE
  have HN := hide (er_news h)
  have hg : g < w.heap.size := World.block_lt_of_cell? _ _ (h 0 _ (List.getElem?_eq_getElem h0)).1
  clear h
  have e1 : ∀ W, (binOp .eql 22 (.slice (some ⟨g, o, none⟩) L.length c) (.slice none 0 0)).run Try.prog W = .ok (.bool false) W := fun W => Go.Lib.run_eql_slice_nil W 22 30 (some ⟨g, o, none⟩) L.length c 0 0 Try.underlying22
  have HO0 : Hid ((w.alloc (.cells #[] 30)).ownsRow w.heap.size 30 2 (.slice (some ⟨w.heap.size, 0, none⟩) 0 0) 0 []) := hide ⟨rfl, .inr ⟨w.heap.size, 0, #[], rfl, Nat.le_refl _, heap_alloc_new w _, Nat.le_refl _, Nat.zero_le _, rfl, rfl⟩⟩
  have hb0 : Below w.heap.size w (w.alloc (.cells #[] 30)) := (Below.refl _ _).alloc (Nat.le_refl _) _
  have HB0 := hide hb0
  clear hb0
  go_enter Try.func22, Try.ntmps22
  go_wp2_with (at_builtin; refine wpList_append_lies _ rfl _ _ 22 rfl w.heap.size 30 i0 (.agg #[.int .i64 0, .int .i64 0]) 2 16 Try.underlying22 hi hz0 hz1 hz2 rfl (by decide) _ 0 [] rfl HO0.out ⟨g, o, none⟩ L.length c (fcells L) rfl (fcells_len L) ?c1 (fcells_one L) ?c3 ?c4 ?c5 ?c6 _ rfl ?_)
  case c1 => exact fun j u hu => bsome HB0.out (HN.out j u hu)
  case c3 => exact h0
  case c4 => unfold maxLen; omega
  case c5 => omega
  case c6 => simp
  intro gn cap w3 hown hgrow hat hlt2
  have HB3 : Hid (Below w.heap.size w w3) := hide (HB0.out.grown hgrow (by simp) (fun j hj => (HO0.out.lt j hj).1))
  have HO3 : Hid (w3.ownsRow w.heap.size 30 2 (.slice (some ⟨gn, 0, none⟩) L.length cap) L.length (fcells L)) := hide (by simpa using hown)
  clear hown hgrow hat HO0
  go_wp2
  go_ret
  exact ⟨_, rfl, HO3.out, HB3.out⟩
set_option maxRecDepth 100000 in
set_option maxHeartbeats 1000000 in
theorem clone_none (a : Option Addr) (c : Nat) (w : World) :
    Calls Try.prog 22 #[.slice a 0 c] w fun e w' => (∃ b c', e = .returned (.slice b 0 c')) ∧ Below w.heap.size w w' := by
  cases a with
  | none =>
    have e1 : ∀ W, (binOp .eql 22 (.slice none 0 c) (.slice none 0 0)).run Try.prog W = .ok (.bool true) W := fun W => Go.Lib.run_eql_slice_nil W 22 30 none 0 c 0 0 Try.underlying22
    go_enter Try.func22, Try.ntmps22
    go_wp2
    go_ret
    exact ⟨⟨_, _, rfl⟩, Below.refl _ _⟩
  | some ad =>
    have e1 : ∀ W, (binOp .eql 22 (.slice (some ad) 0 c) (.slice none 0 0)).run Try.prog W = .ok (.bool false) W := fun W => Go.Lib.run_eql_slice_nil W 22 30 (some ad) 0 c 0 0 Try.underlying22
    go_enter Try.func22, Try.ntmps22
    go_wp2
    go_ret
    exact ⟨⟨_, _, rfl⟩, (Below.refl _ _).alloc (Nat.le_refl _) _⟩
end Go.Proofs.Ytibhbbgpeckkfaa

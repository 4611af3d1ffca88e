import Derived.Test.YtbepaimbbclejaaLdGa
import Derived.Deep.LoopGhost
/- Package ledger: what tells of it; the document's own. -/
namespace Go.Proofs.Ytbepaimbbclejaa
open Go.RowKit

theorem Ld.of_snoc (h : Int) (x : En) : ∀ (A : List En) (i : Nat), Ld.of h i (A ++ [x]) = Ld.of h i A ++ (if x.h = h then [((i + A.length : Nat) : Int)] else []) := by
  intro A
  induction A with
  | nil => intro i; simp only [List.nil_append, Ld.of, List.length_nil, Nat.add_zero]
  | cons y A ih =>
    intro i
    simp only [List.cons_append, Ld.of, ih, List.length_cons]
    rw [show i + 1 + A.length = i + (A.length + 1) by omega]
    split <;> rfl
theorem Ld.of_len (h : Int) : ∀ (A : List En) (i : Nat), (Ld.of h i A).length ≤ A.length := by
  intro A
  induction A with
  | nil => intro i; exact Nat.le_refl _
  | cons y A ih =>
    intro i
    have := ih (i + 1)
    simp only [Ld.of]
    split <;> simp only [List.length_cons] <;> omega
theorem Ld.of_take (h : Int) {L : List En} {k : Nat} {x : En} (hx : L[k]? = some x) : Ld.of h 0 (L.take (k + 1)) = Ld.of h 0 (L.take k) ++ (if x.h = h then [(k : Int)] else []) := by
  have hk := (List.getElem?_eq_some_iff.1 hx).1
  rw [List.take_add_one, hx]
  show Ld.of h 0 (L.take k ++ [x]) = _
  rw [Ld.of_snoc, List.length_take, Nat.min_eq_left (by omega), Nat.zero_add]
theorem own_slicei {B t z n : Nat} {w : World} {v : Value} {xs : List Value} (h : w.ownsRow B t z v n xs) : ∃ a c, v = .slice a n c := by
  rcases h.2 with ⟨h, h0⟩ | ⟨g, cap, cur, hv, hg, rest⟩
  · exact ⟨none, 0, by rw [h, h0]⟩
  · exact ⟨_, cap, hv⟩
set_option maxRecDepth 100000
set_option maxHeartbeats 1000000
/-- A row of ends that can be read. -/
def EnR (w : World) (v : Value) (L : List En) : Prop :=
  ∃ a c, v = .slice a L.length c ∧ (L ≠ [] → ∃ g, a = some ⟨g, 0, none⟩ ∧ (∀ (k : Nat) x, L[k]? = some x → w.cell? ⟨g, k * 4, none⟩ = some (.int .i64 x.c) ∧ w.cell? ⟨g, k * 4 + 1, none⟩ = some (.bool x.s) ∧ w.cell? ⟨g, k * 4 + 2, none⟩ = some (.int .i64 x.h) ∧ w.cell? ⟨g, k * 4 + 3, none⟩ = some (.int .i64 x.d)))
theorem own_enr {B : Nat} {w : World} {v : Value} {L : List En} (h : w.ownsRow B 48 4 v L.length (ecl L)) : EnR w v L := by
  obtain ⟨a, c, rfl⟩ := own_slicei h
  refine ⟨a, c, rfl, fun hn => ?_⟩
  have hl := List.length_pos_iff.2 hn
  obtain ⟨g, cap, hv, -⟩ := h.form hl
  obtain ⟨rfl, rfl⟩ : a = some ⟨g, 0, none⟩ ∧ c = cap := by simpa using hv
  refine ⟨g, rfl, fun k x hx => ?_⟩
  have hk := (List.getElem?_eq_some_iff.1 hx).1
  obtain ⟨c1, c2, c3, c4⟩ := ecl_at L k x hx
  refine ⟨?_, ?_, ?_, ?_⟩
  · rw [h.cellAt _ (by omega)]; exact c1
  · rw [h.cellAt _ (by omega)]; exact c2
  · rw [h.cellAt _ (by omega)]; exact c3
  · rw [h.cellAt _ (by omega)]; exact c4
theorem EnR.keep {w w' : World} {v : Value} {L : List En} (h : EnR w v L) (hb : Below w.heap.size w w') : EnR w' v L := by
  obtain ⟨a, c, h1, h2⟩ := h
  refine ⟨a, c, h1, fun hn => ?_⟩
  obtain ⟨g, h3, h4⟩ := h2 hn
  exact ⟨g, h3, fun k x hx => ⟨bsome hb (h4 k x hx).1, bsome hb (h4 k x hx).2.1, bsome hb (h4 k x hx).2.2.1, bsome hb (h4 k x hx).2.2.2⟩⟩
theorem sameEnds_any (l : List En) (v1 v2 : Value) (w : World) (hn : l.length ≤ 1000000) (h1 : EnR w v1 l) (h2 : EnR w v2 l) :
    Calls Try.prog 13 #[v1, v2] w fun e w' => e = .returned (.bool true) ∧ Below w.heap.size w w' := by
  obtain ⟨a1, c1, rfl, h1⟩ := h1
  obtain ⟨a2, c2, rfl, h2⟩ := h2
  by_cases h0 : l = []
  · subst h0
    go_enter Try.func13, Try.ntmps13
    go_wp2
    go_loop [5] (fun i => i = .int .i64 0) (fun i => 0)
    case atStart => rfl
    case round =>
      obtain rfl := hrel
      go_wp2
      go_ret
      exact ⟨rfl, Below.refl _ _⟩
  · obtain ⟨g1, rfl, q1⟩ := h1 h0
    obtain ⟨g2, rfl, q2⟩ := h2 h0
    have H1 := hide q1
    have H2 := hide q2
    clear h1 h2 h0 q1 q2
    go_enter Try.func13, Try.ntmps13
    go_wp2
    go_loopw [5] (fun i wr => ∃ k : Nat, k ≤ l.length ∧ i = .int .i64 k ∧ ∃ n, wr = w.drewN n) (fun i _ => l.length - (intOf i).toNat)
    case atStart => exact ⟨0, Nat.zero_le _, rfl, 0, rfl⟩
    case round =>
      obtain ⟨k, hk, rfl, n, rfl⟩ := hrel
      by_cases hlt : k < l.length
      · obtain ⟨x, hx⟩ : ∃ x, l[k]? = some x := ⟨_, List.getElem?_eq_getElem hlt⟩
        obtain ⟨g1a, g1b, g1c, g1d⟩ := H1.out k x hx
        obtain ⟨g2a, g2b, g2c, g2d⟩ := H2.out k x hx
        have heq := En.neq_same x
        clear hx
        go_wp2
        go_quiet (fail)
        go_wp2
        go_roundw
        case rel => exact ⟨k + 1, by omega, by go_num, _, rfl⟩
        case measure => simp [intOf]; omega
      · go_wp2
        go_ret
        exact ⟨rfl, below_drewN (Below.refl _ _) _⟩
theorem cloneE_some {B : Nat} {w : World} {g c : Nat} {L : List En} (h : w.ownsRow B 48 4 (.slice (some ⟨g, 0, none⟩) L.length c) L.length (ecl L)) (hl : L.length ≤ 1000000) (h0 : 0 < L.length) :
    Calls Try.prog 35 #[.slice (some ⟨g, 0, none⟩) L.length c] w fun r w' => ∃ u, r = .returned u ∧ w'.ownsRow w.heap.size 48 4 u L.length (ecl L) ∧ Below w.heap.size w w' := by
  obtain ⟨i0, hi, hz0, hz1, hz2⟩ := info_parts Try.infoEn
  have HN : Hid (∀ j u, (ecl L)[j]? = some u → w.cell? ⟨g, j, none⟩ = some u) := hide (fun j u hu => by have := h.cells rfl j u hu; rw [add_off] at this; exact this)
  clear h
  have e1 : ∀ W, (binOp .eql 27 (.slice (some ⟨g, 0, none⟩) L.length c) (.slice none 0 0)).run Try.prog W = .ok (.bool false) W := fun W => Go.Lib.run_eql_slice_nil W 27 48 (some ⟨g, 0, none⟩) L.length c 0 0 Try.underlying27
  have HO0 : Hid ((w.alloc (.cells #[] 48)).ownsRow w.heap.size 48 4 (.slice (some ⟨w.heap.size, 0, none⟩) 0 0) 0 []) := hide ⟨rfl, .inr ⟨w.heap.size, 0, #[], rfl, Nat.le_refl _, heap_alloc_new w _, Nat.le_refl _, Nat.zero_le _, rfl, rfl⟩⟩
  have HB0 : Hid (Below w.heap.size w (w.alloc (.cells #[] 48))) := hide ((Below.refl _ _).alloc (Nat.le_refl _) _)
  go_enter Try.func35, Try.ntmps35
  go_wp2_with (at_builtin; refine wpList_append_lies _ rfl _ _ 27 rfl w.heap.size 48 i0 (.agg #[.int .i64 0, .bool false, .int .i64 0, .int .i64 0]) 4 32 Try.underlying27 hi hz0 hz1 hz2 rfl (by decide) _ 0 [] rfl HO0.out ⟨g, 0, none⟩ L.length c (ecl L) rfl (ecl_len L) ?c1 (ecl_one L) ?c3 ?c4 ?c5 ?c6 _ rfl ?_)
  case c1 => exact fun j u hu => by first | exact bsome HB0.out (HN.out j u hu) | (rw [add_off]; exact bsome HB0.out (HN.out j u hu))
  try (case c3 => exact h0)
  case c4 => unfold maxLen; omega
  case c5 => omega
  try (case c6 => simp)
  intro gn cap w3 hown hgrow hat hlt2
  have HB3 : Hid (Below w.heap.size w w3) := hide (HB0.out.grown hgrow (by simp) (fun j hj => (HO0.out.lt j hj).1))
  have HO3 : Hid (w3.ownsRow w.heap.size 48 4 (.slice (some ⟨gn, 0, none⟩) L.length cap) L.length (ecl L)) := hide (by simpa using hown)
  clear hown hgrow hat HO0
  go_wp2
  go_ret
  exact ⟨_, rfl, HO3.out, HB3.out⟩
theorem cloneE_none (a : Option Addr) (c : Nat) (w : World) :
    Calls Try.prog 35 #[.slice a 0 c] w fun r w' => ∃ u, r = .returned u ∧ w'.ownsRow w.heap.size 48 4 u 0 [] ∧ Below w.heap.size w w' := by
  cases a with
  | none =>
    have e1 : ∀ W, (binOp .eql 27 (.slice none 0 c) (.slice none 0 0)).run Try.prog W = .ok (.bool true) W := fun W => Go.Lib.run_eql_slice_nil W 27 48 none 0 c 0 0 Try.underlying27
    go_enter Try.func35, Try.ntmps35
    go_wp2
    go_ret
    exact ⟨_, rfl, World.ownsRow_nil _ _ _ _, Below.refl _ _⟩
  | some ad =>
    have e1 : ∀ W, (binOp .eql 27 (.slice (some ad) 0 c) (.slice none 0 0)).run Try.prog W = .ok (.bool false) W := fun W => Go.Lib.run_eql_slice_nil W 27 48 (some ad) 0 c 0 0 Try.underlying27
    go_enter Try.func35, Try.ntmps35
    go_wp2
    go_ret
    exact ⟨_, rfl, ⟨rfl, .inr ⟨w.heap.size, 0, #[], rfl, Nat.le_refl _, heap_alloc_new w _, Nat.le_refl _, Nat.zero_le _, rfl, rfl⟩⟩, (Below.refl _ _).alloc (Nat.le_refl _) _⟩
/-- A copy: its ends in a row of its own. -/
theorem all_any {B : Nat} {w : World} {p : Nat} {v : Value} {L : List En} (h : LG B w p v L) (hl : L.length ≤ 1000000) :
    Calls Try.prog 14 #[.pointer (some ⟨p, 0, none⟩)] w fun r w' => ∃ u, r = .returned u ∧ w'.ownsRow w.heap.size 48 4 u L.length (ecl L) ∧ Below w.heap.size w w' := by
  have HC : Hid (Calls Try.prog 35 #[v] w fun r w' => ∃ u, r = .returned u ∧ w'.ownsRow w.heap.size 48 4 u L.length (ecl L) ∧ Below w.heap.size w w') := by
    by_cases h0 : L = []
    · subst h0
      obtain ⟨a, c, rfl⟩ := h.form
      exact cloneE_none a c w
    · have hl0 := List.length_pos_iff.2 h0
      obtain ⟨g, cap, hv, -⟩ := h.o.form hl0
      have ho := h.o
      rw [hv] at ho ⊢
      exact cloneE_some ho hl hl0
  have hc := h.c
  obtain ⟨a, c, rfl⟩ := h.form
  clear h
  go_enter Try.func14, Try.ntmps14
  go_wp2_with fail
  refine HC.out.mono ?_
  rintro e w1 ⟨u, rfl, ho, hb⟩
  obtain ⟨a1, c1, rfl⟩ := own_slicei ho
  have HO := hide ho
  have HB := hide hb
  clear ho hb
  go_wp2
  go_ret
  exact ⟨_, rfl, HO.out, HB.out⟩
theorem rbAt_any {B : Nat} {w : World} {p : Nat} {v : Value} {L : List En} (h : LG B w p v L) (e : Int) : Calls Try.prog 50 #[.pointer (some ⟨p, 0, none⟩), .int .i64 e] w fun r w' => r = .returned (.tuple #[.agg #[.int .i64 (Ld.at L e).c, .bool (Ld.at L e).s, .int .i64 (Ld.at L e).h, .int .i64 (Ld.at L e).d], .bool (Ld.has L e)]) ∧ Below w.heap.size w w' := by
  have hp := h.plt
  have hpz : p ≠ w.heap.size := Nat.ne_of_lt hp
  rcases Ld.cs L e with ⟨k, x, rfl, hx, hk, h1, h2⟩ | ⟨h1, h2, hno⟩
  · obtain ⟨g, c, rfl, hgp, c1, c2, c3, c4, -⟩ := h.at hx
    have hc := h.c
    rw [h1, h2]
    have k0 : (0 : Int) ≤ (k : Int) := by omega
    have k1 : (k : Int) < (L.length : Int) := by omega
    have d0 : decide ((k : Int) < 0) = false := decide_eq_false (by omega)
    have d1 : decide ((L.length : Int) ≤ (k : Int)) = false := decide_eq_false (by omega)
    have hg := World.block_lt_of_cell? _ _ c1
    have hgz : g ≠ w.heap.size := Nat.ne_of_lt hg
    clear h hx
    go_enter Try.func50, Try.ntmps50
    go_wp2
    refine bodyPost_ret (v := .tuple #[.agg #[.int .i64 x.c, .bool x.s, .int .i64 x.h, .int .i64 x.d], .bool true]) (by simp [results, Try.results50, go_sem]) rfl ⟨rfl, ?_⟩
    exact (Below.refl _ _).alloc (Nat.le_refl _) _
  · rw [h1, h2]
    obtain ⟨a, c, rfl⟩ := h.form
    have hc := h.c
    clear h
    by_cases h0 : e < 0
    · have d0 : decide (e < 0) = true := decide_eq_true h0
      go_enter Try.func50, Try.ntmps50
      go_wp2
      refine bodyPost_ret (v := .tuple #[.agg #[.int .i64 0, .bool false, .int .i64 0, .int .i64 0], .bool false]) (by simp [results, Try.results50, go_sem]) rfl ⟨rfl, ?_⟩
      exact (Below.refl _ _).alloc (Nat.le_refl _) _
    · have d0 : decide (e < 0) = false := decide_eq_false h0
      have d1 : decide ((L.length : Int) ≤ e) = true := decide_eq_true (by omega)
      go_enter Try.func50, Try.ntmps50
      go_wp2
      refine bodyPost_ret (v := .tuple #[.agg #[.int .i64 0, .bool false, .int .i64 0, .int .i64 0], .bool false]) (by simp [results, Try.results50, go_sem]) rfl ⟨rfl, ?_⟩
      exact (Below.refl _ _).alloc (Nat.le_refl _) _
def Ld.pick (k : Int) : Nat := if k = 1 then 1 else if k = 2 then 2 else 0
end Go.Proofs.Ytbepaimbbclejaa

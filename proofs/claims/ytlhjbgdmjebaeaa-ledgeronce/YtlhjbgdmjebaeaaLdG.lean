import Derived.Test.YtlhjbgdmjebaeaaLdF
import Derived.Deep.Cut
import Derived.Deep.CutRange
import Derived.Deep.CutBlock
import Derived.Deep.LoopGhost
import Derived.Deep.RegionLaw
import Derived.Deep.RegionHeld3
import Derived.BigRegion
import Derived.BigQuiet
/- The law LedgerDoes: what a round keeps. -/
namespace Go.Proofs.Ytlhjbgdmjebaeaa
open Go.RowKit

/-- What is done, row by row. -/
structure Stp where
  d : Int
  e : Int
  h : Int
  n : Int
  s : Bool
def SpR (w : World) (v : Value) (L : List Stp) : Prop :=
  ∃ a c, v = .slice a L.length c ∧ (L ≠ [] → ∃ g o, a = some ⟨g, o, none⟩ ∧ ∀ (k : Nat) x, L[k]? = some x → w.cell? ⟨g, o + k * 5, none⟩ = some (.int .i64 x.d) ∧ w.cell? ⟨g, o + k * 5 + 1, none⟩ = some (.int .i64 x.e) ∧ w.cell? ⟨g, o + k * 5 + 2, none⟩ = some (.int .i64 x.h) ∧ w.cell? ⟨g, o + k * 5 + 3, none⟩ = some (.int .i64 x.n) ∧ w.cell? ⟨g, o + k * 5 + 4, none⟩ = some (.bool x.s))
theorem SpR.keep {w w' : World} {v : Value} {L : List Stp} (h : SpR w v L) (hb : Below w.heap.size w w') : SpR w' v L := by
  obtain ⟨a, c, h1, h2⟩ := h
  refine ⟨a, c, h1, fun hn => ?_⟩
  obtain ⟨g, o, h3, h4⟩ := h2 hn
  exact ⟨g, o, h3, fun k x hx => ⟨bsome hb (h4 k x hx).1, bsome hb (h4 k x hx).2.1, bsome hb (h4 k x hx).2.2.1, bsome hb (h4 k x hx).2.2.2.1, bsome hb (h4 k x hx).2.2.2.2⟩⟩
theorem kp8 (x : Int) : ∃ q : Nat, q < 8 ∧ wrap64 ((IntKind.u64.wrap x).tmod 8) = (q : Int) := by
  have h0' : 0 ≤ IntKind.u64.wrap x := by rw [IntKind.wrap_u64]; omega
  have h1 := Int.tmod_eq_emod_of_nonneg (b := 8) h0'
  rw [h1]
  generalize IntKind.u64.wrap x = y at *
  refine ⟨(y % 8).toNat, by omega, ?_⟩
  unfold wrap64
  omega
/-- Ends that were dropped no more than so often. -/
def Fw (L : List En) (i : Nat) : Prop := L.length ≤ i ∧ ∀ x ∈ L, 0 ≤ x.d ∧ x.d ≤ (i : Int)
theorem Fw.up {L : List En} {i : Nat} (h : Fw L i) : Fw L (i + 1) := ⟨Nat.le_succ_of_le h.1, fun x hx => ⟨(h.2 x hx).1, by have := (h.2 x hx).2; omega⟩⟩
theorem Fw.born {L : List En} {i : Nat} (h : Fw L i) (c : Int) (s : Bool) (hm : Int) : Fw (Ld.born L c s hm) (i + 1) := by
  unfold Ld.born
  split
  · refine ⟨by rw [List.length_append, List.length_singleton]; have := h.1; omega, fun x hx => ?_⟩
    rcases List.mem_append.1 hx with hx | hx
    · exact h.up.2 x hx
    · obtain rfl := List.mem_singleton.1 hx
      exact ⟨Int.le_refl _, by show (0 : Int) ≤ _; omega⟩
  · exact h.up
theorem Fw.set {L : List En} {i k : Nat} (h : Fw L i) {y : En} (hy : 0 ≤ y.d ∧ y.d ≤ ((i + 1 : Nat) : Int)) : Fw (L.set k y) (i + 1) := by
  refine ⟨by rw [List.length_set]; have := h.1; omega, fun x hx => ?_⟩
  rcases List.mem_or_eq_of_mem_set hx with hx | rfl
  · exact h.up.2 x hx
  · exact hy
theorem Fw.at {L : List En} {i : Nat} (h : Fw L i) (e : Int) : 0 ≤ (Ld.at L e).d ∧ (Ld.at L e).d ≤ (i : Int) := by
  rcases Ld.cs L e with ⟨k, x, rfl, hx, hk, h1, h2⟩ | ⟨h1, h2, -⟩
  · rw [h2]; exact h.2 x (List.mem_of_getElem? hx)
  · rw [h2]; exact ⟨Int.le_refl _, by show (0 : Int) ≤ _; omega⟩
theorem Fw.move {L : List En} {i : Nat} (h : Fw L i) (e hm : Int) : Fw (Ld.move L e hm) (i + 1) := by
  unfold Ld.move
  split
  · exact h.set (by have := h.at e; exact ⟨this.1, by show (Ld.at L e).d ≤ _; omega⟩)
  · exact h.up
theorem Fw.gone {L : List En} {i : Nat} (h : Fw L i) (e : Int) : Fw (Ld.gone L e) (i + 1) := by
  unfold Ld.gone
  split
  · exact h.set (by have := h.at e; exact ⟨by show (0 : Int) ≤ (Ld.at L e).d + 1; omega, by show (Ld.at L e).d + 1 ≤ _; omega⟩)
  · exact h.up
theorem Fw.bd {L : List En} {i : Nat} (h : Fw L i) (hi : i ≤ 200) : ∀ x ∈ L, 0 ≤ x.d ∧ x.d ≤ 1000000 := fun x hx => ⟨(h.2 x hx).1, by have := (h.2 x hx).2; omega⟩
def LRel (w1 : World) (n p q : Nat) (v : Value) (wr : World) : Prop := ∃ (i : Nat) (L : List En) (a b : Value), i ≤ n ∧ v = .int .i64 i ∧ Hid (L2 w1 wr p q a b L L) ∧ Hid (Fw L i)
def LI (w1 : World) (av : Option Addr) (n cv p q : Nat) (a : Act) (wr : World) : Prop := ∃ u : Nat → Value, LRel w1 n p q (u 5) wr ∧ a = lframe av n cv p q u
def Lmu (n : Nat) (a : Act) (_ : World) : Nat := n - (intOf (a.tmps.getD 5 undef)).toNat
theorem li_mk {w1 : World} {av : Option Addr} {n cv p q : Nat} (a : Act) (wr : World) (ha : a = lframe av n cv p q (fun k => a.tmps.getD k undef)) (hrel : LRel w1 n p q (a.tmps.getD 5 undef) wr) : LI w1 av n cv p q a wr := ⟨_, hrel, ha⟩
end Go.Proofs.Ytlhjbgdmjebaeaa

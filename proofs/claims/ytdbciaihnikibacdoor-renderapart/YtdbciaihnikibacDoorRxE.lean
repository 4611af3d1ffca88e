import Derived.Test.YtdbciaihnikibacDoorSynV
import Derived.Test.YtdbciaihnikibacDoorRxA
import Derived.Deep.AppendLies
import Derived.Deep.RegionLaw
import Derived.Deep.RegionHeldLaw
import Derived.Test.YtdbciaihnikibacDoorRxD
/- Arguments in memory. -/
namespace Go.Proofs.YtdbciaihnikibacDoor
open Go.RowKit
theorem Tryd.infoParam : (Tryd.prog.info? 38).map (fun i => (i.zero, i.size, i.bytes)) = some (some (.agg #[.string ⟨#[]⟩, .string ⟨#[]⟩]), 2, 32) := by kernel_rfl
theorem Tryd.infoExpr : (Tryd.prog.info? 80).map (fun i => (i.zero, i.size, i.bytes)) = some (some (.agg #[.int .i64 0, .string ⟨#[]⟩, .int .i64 0, .slice none 0 0]), 4, 56) := by kernel_rfl
theorem Tryd.infoStmt : (Tryd.prog.info? 59).map (fun i => (i.zero, i.size, i.bytes)) = some (some (.agg #[.int .i64 0, .int .i64 0, .string ⟨#[]⟩, .string ⟨#[]⟩, .string ⟨#[]⟩, .int .i64 0, .slice none 0 0, .slice none 0 0, .slice none 0 0]), 9, 144) := by kernel_rfl
theorem Tryd.infoStage : (Tryd.prog.info? 35).map (fun i => (i.zero, i.size, i.bytes)) = some (some (.agg #[.string ⟨#[]⟩, .int .i64 0, .slice none 0 0, .slice none 0 0]), 4, 72) := by kernel_rfl
theorem own_blk {w : World} {B t z n : Nat} {v : Value} {xs : List Value} (h : w.ownsRow B t z v n xs) : ∀ k, k ∈ v.ownBlock.toList → B ≤ k := by
  intro k hk
  rcases h.2 with ⟨rfl, _⟩ | ⟨g, cap, cur, rfl, hB, _⟩
  · simp [Value.ownBlock] at hk
  · simp [Value.ownBlock] at hk
    omega
theorem own_lt {w : World} {B t z n : Nat} {v : Value} {xs : List Value} (h : w.ownsRow B t z v n xs) : ∀ k, some k = v.ownBlock → k < w.heap.size := by
  intro k hk
  rcases h.2 with ⟨rfl, _⟩ | ⟨g, cap, cur, rfl, hB, hg, _⟩
  · simp [Value.ownBlock] at hk
  · simp [Value.ownBlock] at hk
    rw [hk]
    rcases Nat.lt_or_ge g w.heap.size with h' | h'
    · exact h'
    · rw [Array.getElem?_eq_none h'] at hg; cases hg


theorem own_keep {w w' : World} {S : List Nat} {B t z n : Nat} {v : Value} {xs : List Value} (h : w.ownsRow B t z v n xs) (hk : Kp S w w') (hS : ∀ k, k ∈ S → k < B) : w'.ownsRow B t z v n xs := by
  refine ⟨h.1, h.2.imp id (fun ⟨g, cap, cur, hv, hB, hg, r⟩ => ⟨g, cap, cur, hv, hB, ?_, r⟩)⟩
  rw [hk.block g (by
    rcases Nat.lt_or_ge g w.heap.size with h' | h'
    · exact h'
    · rw [Array.getElem?_eq_none h'] at hg; cases hg) (fun hm => by have := hS g hm; omega)]
  exact hg

theorem Kp.of_grown {w w' : World} {row : Option Nat} (h : w.grownBy w' row) : Kp row.toList w w' :=
  ⟨h.os, h.tape, h.output, h.size, fun k hk hn => h.block k hk (fun e => hn (by rw [← e]; simp))⟩
theorem cells_nine_new (w : World) (n : Nat) (hn : n = w.heap.size) (a b c d e f g h i : Value) (t : TypeId) : ∀ (j : Nat) (v : Value), [a, b, c, d, e, f, g, h, i][j]? = some v → (w.alloc (.cells #[a, b, c, d, e, f, g, h, i] t)).cell? ((⟨n, 0, none⟩ : Addr).add j) = some v := by
  intro j v hj
  subst hn
  rw [Addr.add_mid]
  match j, hj with
  | 0, hj => simp at hj; subst hj; simp [go_sem]
  | 1, hj => simp at hj; subst hj; simp [go_sem]
  | 2, hj => simp at hj; subst hj; simp [go_sem]
  | 3, hj => simp at hj; subst hj; simp [go_sem]
  | 4, hj => simp at hj; subst hj; simp [go_sem]
  | 5, hj => simp at hj; subst hj; simp [go_sem]
  | 6, hj => simp at hj; subst hj; simp [go_sem]
  | 7, hj => simp at hj; subst hj; simp [go_sem]
  | 8, hj => simp at hj; subst hj; simp [go_sem]
/-- A row has grown: what its things lead to stands as it was. -/
theorem rows_grow {R : World → (Nat → Prop) → Sx.Tr → List Value → Prop} (hkeep : ∀ (w w' : World) (S : List Nat) (P : Nat → Prop) d c, R w P d c → Kp S w w' → (∀ k, k ∈ S → ¬ P k) → R w' P d c)
    (hbase : ∀ (w : World) (P P' : Nat → Prop) d c, R w P d c → (∀ b, b < w.heap.size → P b → P' b) → R w P' d c) {B g : Nat} {W w3 : World} {v : Value} {l : List Sx.Tr} {cs : List Value}
    (h : Rw (R W (fun b => B ≤ b ∧ some b ≠ v.ownBlock)) l cs) (hg : W.grownBy w3 v.ownBlock) (hat : v.ownBlock = some g ∨ g = W.heap.size) : Rw (R w3 (fun b => B ≤ b ∧ some b ≠ some g)) l cs := by
  refine h.mono (fun d c hd => ?_)
  have h1 := hbase W _ (fun b => B ≤ b ∧ some b ≠ v.ownBlock ∧ b ≠ g) d c hd (fun b hb hP => ⟨hP.1, hP.2, fun e => by
    rcases hat with ha | ha
    · exact hP.2 (by rw [ha, e])
    · omega⟩)
  have h2 := hkeep W w3 _ _ d c h1 (Kp.of_grown hg) (fun k hk hP => hP.2.1 (Option.mem_toList.1 hk).symm)
  exact hbase w3 _ _ d c h2 (fun b _ hP => ⟨hP.1, fun e => hP.2.2 (by simpa using e)⟩)

structure S9 (w : World) (b : Nat) (D at' : Int) (A B T : ByteArray) (N : Int) (uE uB uL : Value) : Prop where
  c0 : w.cell? ⟨b, 0, none⟩ = some (.int .i64 D)
  c1 : w.cell? ⟨b, 1, none⟩ = some (.int .i64 at')
  c2 : w.cell? ⟨b, 2, none⟩ = some (.string A)
  c3 : w.cell? ⟨b, 3, none⟩ = some (.string B)
  c4 : w.cell? ⟨b, 4, none⟩ = some (.string T)
  c5 : w.cell? ⟨b, 5, none⟩ = some (.int .i64 N)
  c6 : w.cell? ⟨b, 6, none⟩ = some uE
  c7 : w.cell? ⟨b, 7, none⟩ = some uB
  c8 : w.cell? ⟨b, 8, none⟩ = some uL
  fz : ∀ o, w.frozen? ⟨b, o, none⟩ = false
section
variable {w w' : World} {S : List Nat} {b : Nat} {D at' : Int} {A B T : ByteArray} {N : Int} {uE uB uL : Value}
theorem S9.lt (h : S9 w b D at' A B T N uE uB uL) : b < w.heap.size := World.block_lt_of_cell? w ⟨b, 0, none⟩ h.c0
theorem S9.keep (h : S9 w b D at' A B T N uE uB uL) (k : Kp S w w') (hn : b ∉ S) : S9 w' b D at' A B T N uE uB uL :=
  ⟨k.some h.c0 hn, k.some h.c1 hn, k.some h.c2 hn, k.some h.c3 hn, k.some h.c4 hn, k.some h.c5 hn, k.some h.c6 hn, k.some h.c7 hn, k.some h.c8 hn, fun o => (k.frozen (p := ⟨b, o, none⟩) h.lt hn).trans (h.fz o)⟩
theorem S9.setA (h : S9 w b D at' A B T N uE uB uL) (x : ByteArray) : S9 (w.setCell ⟨b, 2, none⟩ (.string x)) b D at' x B T N uE uB uL :=
  ⟨(cell_off _ _ _ _ _ (by decide)).trans h.c0, (cell_off _ _ _ _ _ (by decide)).trans h.c1, by rw [World.cell?_setCell_same (h := h.c2)], (cell_off _ _ _ _ _ (by decide)).trans h.c3, (cell_off _ _ _ _ _ (by decide)).trans h.c4, (cell_off _ _ _ _ _ (by decide)).trans h.c5, (cell_off _ _ _ _ _ (by decide)).trans h.c6, (cell_off _ _ _ _ _ (by decide)).trans h.c7, (cell_off _ _ _ _ _ (by decide)).trans h.c8, fun o => by simpa using h.fz o⟩
theorem S9.setB (h : S9 w b D at' A B T N uE uB uL) (x : ByteArray) : S9 (w.setCell ⟨b, 3, none⟩ (.string x)) b D at' A x T N uE uB uL :=
  ⟨(cell_off _ _ _ _ _ (by decide)).trans h.c0, (cell_off _ _ _ _ _ (by decide)).trans h.c1, (cell_off _ _ _ _ _ (by decide)).trans h.c2, by rw [World.cell?_setCell_same (h := h.c3)], (cell_off _ _ _ _ _ (by decide)).trans h.c4, (cell_off _ _ _ _ _ (by decide)).trans h.c5, (cell_off _ _ _ _ _ (by decide)).trans h.c6, (cell_off _ _ _ _ _ (by decide)).trans h.c7, (cell_off _ _ _ _ _ (by decide)).trans h.c8, fun o => by simpa using h.fz o⟩
theorem S9.setT (h : S9 w b D at' A B T N uE uB uL) (x : ByteArray) : S9 (w.setCell ⟨b, 4, none⟩ (.string x)) b D at' A B x N uE uB uL :=
  ⟨(cell_off _ _ _ _ _ (by decide)).trans h.c0, (cell_off _ _ _ _ _ (by decide)).trans h.c1, (cell_off _ _ _ _ _ (by decide)).trans h.c2, (cell_off _ _ _ _ _ (by decide)).trans h.c3, by rw [World.cell?_setCell_same (h := h.c4)], (cell_off _ _ _ _ _ (by decide)).trans h.c5, (cell_off _ _ _ _ _ (by decide)).trans h.c6, (cell_off _ _ _ _ _ (by decide)).trans h.c7, (cell_off _ _ _ _ _ (by decide)).trans h.c8, fun o => by simpa using h.fz o⟩
theorem S9.setN (h : S9 w b D at' A B T N uE uB uL) (x : Int) : S9 (w.setCell ⟨b, 5, none⟩ (.int .i64 x)) b D at' A B T x uE uB uL :=
  ⟨(cell_off _ _ _ _ _ (by decide)).trans h.c0, (cell_off _ _ _ _ _ (by decide)).trans h.c1, (cell_off _ _ _ _ _ (by decide)).trans h.c2, (cell_off _ _ _ _ _ (by decide)).trans h.c3, (cell_off _ _ _ _ _ (by decide)).trans h.c4, by rw [World.cell?_setCell_same (h := h.c5)], (cell_off _ _ _ _ _ (by decide)).trans h.c6, (cell_off _ _ _ _ _ (by decide)).trans h.c7, (cell_off _ _ _ _ _ (by decide)).trans h.c8, fun o => by simpa using h.fz o⟩
theorem S9.setE (h : S9 w b D at' A B T N uE uB uL) (x : Value) : S9 (w.setCell ⟨b, 6, none⟩ x) b D at' A B T N x uB uL :=
  ⟨(cell_off _ _ _ _ _ (by decide)).trans h.c0, (cell_off _ _ _ _ _ (by decide)).trans h.c1, (cell_off _ _ _ _ _ (by decide)).trans h.c2, (cell_off _ _ _ _ _ (by decide)).trans h.c3, (cell_off _ _ _ _ _ (by decide)).trans h.c4, (cell_off _ _ _ _ _ (by decide)).trans h.c5, by rw [World.cell?_setCell_same (h := h.c6)], (cell_off _ _ _ _ _ (by decide)).trans h.c7, (cell_off _ _ _ _ _ (by decide)).trans h.c8, fun o => by simpa using h.fz o⟩
theorem S9.setBody (h : S9 w b D at' A B T N uE uB uL) (x : Value) : S9 (w.setCell ⟨b, 7, none⟩ x) b D at' A B T N uE x uL :=
  ⟨(cell_off _ _ _ _ _ (by decide)).trans h.c0, (cell_off _ _ _ _ _ (by decide)).trans h.c1, (cell_off _ _ _ _ _ (by decide)).trans h.c2, (cell_off _ _ _ _ _ (by decide)).trans h.c3, (cell_off _ _ _ _ _ (by decide)).trans h.c4, (cell_off _ _ _ _ _ (by decide)).trans h.c5, (cell_off _ _ _ _ _ (by decide)).trans h.c6, by rw [World.cell?_setCell_same (h := h.c7)], (cell_off _ _ _ _ _ (by decide)).trans h.c8, fun o => by simpa using h.fz o⟩
theorem S9.setElse (h : S9 w b D at' A B T N uE uB uL) (x : Value) : S9 (w.setCell ⟨b, 8, none⟩ x) b D at' A B T N uE uB x :=
  ⟨(cell_off _ _ _ _ _ (by decide)).trans h.c0, (cell_off _ _ _ _ _ (by decide)).trans h.c1, (cell_off _ _ _ _ _ (by decide)).trans h.c2, (cell_off _ _ _ _ _ (by decide)).trans h.c3, (cell_off _ _ _ _ _ (by decide)).trans h.c4, (cell_off _ _ _ _ _ (by decide)).trans h.c5, (cell_off _ _ _ _ _ (by decide)).trans h.c6, (cell_off _ _ _ _ _ (by decide)).trans h.c7, by rw [World.cell?_setCell_same (h := h.c8)], fun o => by simpa using h.fz o⟩
theorem S9.new (w : World) (D at' : Int) (A B T : ByteArray) (N : Int) (uE uB uL : Value) (t : TypeId) : S9 (w.alloc (.cells #[.int .i64 D, .int .i64 at', .string A, .string B, .string T, .int .i64 N, uE, uB, uL] t)) w.heap.size D at' A B T N uE uB uL :=
  ⟨by simp [go_sem], by simp [go_sem], by simp [go_sem], by simp [go_sem], by simp [go_sem], by simp [go_sem], by simp [go_sem], by simp [go_sem], by simp [go_sem], fun o => by simp [go_sem]⟩
end
def RE (w : World) (P : Nat → Prop) (n : Nat) (d : Sx.Tr) (c : List Value) : Prop := ∃ op nm k L u, d = Sx.tE op nm k L ∧ c = [.int .i64 op, .string (bs nm), .int .i64 k, u] ∧ EL w P n L u
theorem RE_len {w : World} {P : Nat → Prop} {n : Nat} (d : Sx.Tr) (c : List Value) (h : RE w P n d c) : c.length = 4 := by
  obtain ⟨op, nm, k, L, u, _, rfl, _⟩ := h; rfl
theorem EL.of_sl {w : World} {P : Nat → Prop} {n : Nat} {l : List Sx.Tr} {v : Value} (h : Sl (RE w P n) w P l v) : EL w P (n + 1) l v := by
  obtain ⟨a, cap, hv, h⟩ := h
  refine ⟨a, cap, hv, h.imp id ?_⟩
  rintro ⟨b, off, cs, ha, hb, hr, hc⟩
  refine ⟨b, off, ha, hb, fun i d hd => ?_⟩
  obtain ⟨c, ⟨op, nm, k, L, u, h1, rfl, h3⟩, hcc⟩ := hr.at (z := 4) RE_len i d hd
  refine ⟨op, nm, k, L, u, h1, ?_, ?_, ?_, ?_, h3⟩
  · simpa using hc _ _ (hcc 0 _ rfl)
  · simpa [Nat.add_assoc] using hc _ _ (hcc 1 _ rfl)
  · simpa [Nat.add_assoc] using hc _ _ (hcc 2 _ rfl)
  · simpa [Nat.add_assoc] using hc _ _ (hcc 3 _ rfl)

theorem RE.keep {w w' : World} {S : List Nat} {P : Nat → Prop} {n : Nat} {d : Sx.Tr} {c : List Value} (h : RE w P n d c) (hk : Kp S w w') (hS : ∀ k, k ∈ S → ¬ P k) : RE w' P n d c := by
  obtain ⟨op, nm, k, L, u, h1, h2, h3⟩ := h
  exact ⟨op, nm, k, L, u, h1, h2, h3.keep hk hS⟩
theorem RE.base {w : World} {P P' : Nat → Prop} {n : Nat} {d : Sx.Tr} {c : List Value} (h : RE w P n d c) (hP : ∀ b, b < w.heap.size → P b → P' b) : RE w P' n d c := by
  obtain ⟨op, nm, k, L, u, h1, h2, h3⟩ := h
  exact ⟨op, nm, k, L, u, h1, h2, h3.base hP⟩
theorem RE.more {w : World} {P : Nat → Prop} {n : Nat} {d : Sx.Tr} {c : List Value} (m : Nat) (h : RE w P n d c) : RE w P (n + m) d c := by
  obtain ⟨op, nm, k, L, u, h1, h2, h3⟩ := h
  exact ⟨op, nm, k, L, u, h1, h2, h3.more m⟩
theorem own_spot {w : World} {B t z n g cap : Nat} {xs : List Value} (h : w.ownsRow B t z (.slice (some ⟨g, 0, none⟩) n cap) n xs) : (∀ (j : Nat) u, xs[j]? = some u → w.cell? ⟨g, j, none⟩ = some u) ∧ (∀ o, w.frozen? ⟨g, o, none⟩ = false) ∧ g < w.heap.size := by
  refine ⟨fun j u hu => ?_, fun o => ?_, own_lt h g rfl⟩
  · have := h.cells (g := g) rfl j u hu
    rwa [Addr.add_mid, Nat.zero_add] at this
  · rcases h.2 with ⟨hv, _⟩ | ⟨g', cap', cur, hv, hB, hg, _⟩
    · cases hv
    · cases hv
      simp [World.frozen?, hg]
theorem own_put {w : World} {B t z n g cap : Nat} {xs : List Value} (h : w.ownsRow B t z (.slice (some ⟨g, 0, none⟩) n cap) n xs) (j : Nat) (u : Value) : (w.setCell ⟨g, j, none⟩ u).ownsRow B t z (.slice (some ⟨g, 0, none⟩) n cap) n (xs.set j u) := by
  refine ⟨by rw [List.length_set]; exact h.1, ?_⟩
  rcases h.2 with ⟨hv, _⟩ | ⟨g', cap', cur, hv, hB, hg, h1, h2, h3, h4⟩
  · cases hv
  · cases hv
    refine .inr ⟨g, cap, cur.setIfInBounds j u, rfl, hB, ?_, h1, h2, by simpa using h3, ?_⟩
    · simp [World.setCell, Array.getElem?_modify, hg]
    · rw [← h4]
      apply List.ext_getElem?
      intro k
      simp only [Array.toList_setIfInBounds, List.getElem?_take, List.getElem?_set, List.length_take]
      by_cases hk : k < n * z
      · rw [if_pos hk]
        by_cases hjk : j = k
        · subst hjk
          rw [if_pos rfl, if_pos rfl]
          by_cases hl : j < cur.toList.length
          · rw [if_pos hl, if_pos (by omega)]
          · rw [if_neg hl, if_neg (by omega)]
        · rw [if_neg hjk, if_neg hjk, if_pos hk]
      · rw [if_neg hk, if_neg hk]
        by_cases hjk : j = k
        · subst hjk
          rw [if_pos rfl, if_neg (by omega)]
        · rw [if_neg hjk]
theorem put_four (cs : List Value) (a b c d z0 z1 z2 z3 : Value) (n : Nat) (h : cs.length = n) : ((((cs ++ [z0, z1, z2, z3]).set n a).set (n + 1) b).set (n + 2) c).set (n + 3) d = cs ++ [a, b, c, d] := by
  subst h
  simp
theorem zero_at (cs : List Value) (z0 z1 z2 z3 : Value) (n : Nat) (h : cs.length = n * 4) : (cs ++ [z0, z1, z2, z3])[n * 4]? = some z0 ∧ (cs ++ [z0, z1, z2, z3])[n * 4 + 1]? = some z1 ∧ (cs ++ [z0, z1, z2, z3])[n * 4 + 2]? = some z2 ∧ (cs ++ [z0, z1, z2, z3])[n * 4 + 3]? = some z3 := by
  rw [← h]
  simp
end Go.Proofs.YtdbciaihnikibacDoor


/- Copies: expressions. -/
namespace Go.Proofs.YtdbciaihnikibacDoor
open Go.RowKit
theorem wE_nth (n : Nat) (l : List Sx.Tr) (hw : Sx.wE (n + 1) l ≤ 1000000) : ∀ (i : Nat) d, l[i]? = some d → Sx.wE n (Sx.eL d) ≤ 1000000 := fun i d hd => by
  have h1 : Sx.sum (fun d => Sx.wE n (Sx.eL d)) (l.take (i + 1)) = Sx.sum (fun d => Sx.wE n (Sx.eL d)) (l.take i) + Sx.wE n (Sx.eL d) := Sx.sum_take (fun d => Sx.wE n (Sx.eL d)) l i d hd
  have h2 := Sx.sum_take_le (fun d => Sx.wE n (Sx.eL d)) l (i + 1)
  have : l.length + Sx.sum (fun d => Sx.wE n (Sx.eL d)) l = Sx.wE (n + 1) l := rfl
  omega
theorem take_snoc {l : List Sx.Tr} {k : Nat} {d : Sx.Tr} (h : l[k]? = some d) : l.take (k + 1) = l.take k ++ [d] := by
  rw [List.take_add_one, h]
  rfl
end Go.Proofs.YtdbciaihnikibacDoor


/- Copies: statements. -/
namespace Go.Proofs.YtdbciaihnikibacDoor
open Go.RowKit
theorem wS_nth' (n : Nat) (l : List Sx.Tr) (hw : Sx.wS (n + 1) l ≤ 1000000) : ∀ (i : Nat) d, l[i]? = some d → Sx.wE n (Sx.sE d) + Sx.wS n (Sx.sB d) + Sx.wS n (Sx.sO d) ≤ 1000000 := fun i d hd => by
  have h1 : Sx.sum (fun d => Sx.wE n (Sx.sE d) + Sx.wS n (Sx.sB d) + Sx.wS n (Sx.sO d)) (l.take (i + 1)) = Sx.sum (fun d => Sx.wE n (Sx.sE d) + Sx.wS n (Sx.sB d) + Sx.wS n (Sx.sO d)) (l.take i) + (Sx.wE n (Sx.sE d) + Sx.wS n (Sx.sB d) + Sx.wS n (Sx.sO d)) := Sx.sum_take _ l i d hd
  have h2 := Sx.sum_take_le (fun d => Sx.wE n (Sx.sE d) + Sx.wS n (Sx.sB d) + Sx.wS n (Sx.sO d)) l (i + 1)
  have : l.length + Sx.sum (fun d => Sx.wE n (Sx.sE d) + Sx.wS n (Sx.sB d) + Sx.wS n (Sx.sO d)) l = Sx.wS (n + 1) l := rfl
  omega

end Go.Proofs.YtdbciaihnikibacDoor


/- Copies: programs. -/
namespace Go.Proofs.YtdbciaihnikibacDoor
open Go.RowKit

theorem wG_nth' (n : Nat) (l : List Sx.Tr) (hw : Sx.wG n l ≤ 1000000) : ∀ (i : Nat) d, l[i]? = some d → Sx.wS n (Sx.gB d) ≤ 1000000 := fun i d hd => by
  have h1 : Sx.sum (fun d => Sx.wS n (Sx.gB d)) (l.take (i + 1)) = Sx.sum (fun d => Sx.wS n (Sx.gB d)) (l.take i) + Sx.wS n (Sx.gB d) := Sx.sum_take _ l i d hd
  have h2 := Sx.sum_take_le (fun d => Sx.wS n (Sx.gB d)) l (i + 1)
  have : Sx.sum (fun d => Sx.wS n (Sx.gB d)) l = Sx.wG n l := rfl
  omega

/-- A stage's variable. -/
structure G4 (w : World) (b : Nat) (nm : ByteArray) (at' : Int) (uP uB : Value) : Prop where
  c0 : w.cell? ⟨b, 0, none⟩ = some (.string nm)
  c1 : w.cell? ⟨b, 1, none⟩ = some (.int .i64 at')
  c2 : w.cell? ⟨b, 2, none⟩ = some uP
  c3 : w.cell? ⟨b, 3, none⟩ = some uB
  fz : ∀ o, w.frozen? ⟨b, o, none⟩ = false
section
variable {w w' : World} {S : List Nat} {b : Nat} {nm : ByteArray} {at' : Int} {uP uB : Value}
theorem G4.lt (h : G4 w b nm at' uP uB) : b < w.heap.size := World.block_lt_of_cell? w ⟨b, 0, none⟩ h.c0
theorem G4.keep (h : G4 w b nm at' uP uB) (k : Kp S w w') (hn : b ∉ S) : G4 w' b nm at' uP uB :=
  ⟨k.some h.c0 hn, k.some h.c1 hn, k.some h.c2 hn, k.some h.c3 hn, fun o => (k.frozen (p := ⟨b, o, none⟩) h.lt hn).trans (h.fz o)⟩
theorem G4.setP (h : G4 w b nm at' uP uB) (x : Value) : G4 (w.setCell ⟨b, 2, none⟩ x) b nm at' x uB := by
  have h0 := h.c0
  have h1 := h.c1
  have h2 := h.c2
  have h3 := h.c3
  have hf := h.fz
  constructor <;> simp [go_sem, *]
theorem G4.new (w : World) (nm : ByteArray) (at' : Int) (uP uB : Value) (t : TypeId) : G4 (w.alloc (.cells #[.string nm, .int .i64 at', uP, uB] t)) w.heap.size nm at' uP uB := by
  constructor <;> simp [go_sem]
end
theorem rp_one {l : List Sx.Tr} {cs : List Value} (h : Rw RP l cs) : ∀ u ∈ cs, u.oneCell' = true := by
  induction l generalizing cs with
  | nil => cases h; simp
  | cons d r ih =>
    obtain ⟨c1, c2, rfl, ⟨nm, T, -, rfl⟩, h3⟩ := h
    intro u hu
    simp at hu
    rcases hu with rfl | rfl | hu
    · rfl
    · rfl
    · exact ih h3 u hu

end Go.Proofs.YtdbciaihnikibacDoor

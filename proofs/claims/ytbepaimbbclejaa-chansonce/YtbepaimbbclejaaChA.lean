import Derived.Test.YtbepaimbbclejaaLdE
import Derived.ArgAppend
/- Channels: rows of items; the document's book in memory. -/
namespace Go.Proofs.Ytbepaimbbclejaa
open Go.RowKit

theorem add_atc (g o k : Nat) : (⟨g, o, none⟩ : Addr).add k = ⟨g, o + k, none⟩ := by unfold Addr.add; split <;> simp_all
theorem heap_setCell_atc {w : World} {g o : Nat} {cur : Array Value} {t : TypeId} {fr : Nat × Nat} (h : w.heap[g]? = some (.cells cur t fr)) (v : Value) : (w.setCell ⟨g, o, none⟩ v).heap[g]? = some (.cells (cur.setIfInBounds o v) t fr) := by
  simp only [World.setCell, Array.getElem?_modify, if_true, h]
  rfl
/-- Items as cells. -/
def icl (M : List (Int × Int)) : List Value := M.flatMap fun x => [.int .i64 x.1, .int .i64 x.2]
theorem icl_cons (x : Int × Int) (M : List (Int × Int)) : icl (x :: M) = .int .i64 x.1 :: .int .i64 x.2 :: icl M := rfl
theorem icl_len (M : List (Int × Int)) : (icl M).length = M.length * 2 := by
  induction M with
  | nil => rfl
  | cons x M ih => rw [icl_cons]; simp only [List.length_cons, ih]; omega
theorem icl_app (A B : List (Int × Int)) : icl (A ++ B) = icl A ++ icl B := by simp [icl]
theorem icl_one (M : List (Int × Int)) : ∀ u ∈ icl M, u.oneCell' = true := by
  intro u hu
  simp only [icl, List.mem_flatMap] at hu
  obtain ⟨x, -, hx⟩ := hu
  simp at hx
  rcases hx with rfl | rfl <;> rfl
theorem icl_at (M : List (Int × Int)) : ∀ (k : Nat) (x : Int × Int), M[k]? = some x → (icl M)[k * 2]? = some (.int .i64 x.1) ∧ (icl M)[k * 2 + 1]? = some (.int .i64 x.2) := by
  induction M with
  | nil => intro k x h; simp at h
  | cons y M ih =>
    intro k x h
    cases k with
    | zero => simp at h; subst h; rw [icl_cons]; simp
    | succ k =>
      obtain ⟨h1, h2⟩ := ih k x (by simpa using h)
      rw [icl_cons, show (k + 1) * 2 = k * 2 + 2 by omega]
      exact ⟨h1, h2⟩
theorem Try.infoIt : (Try.prog.info? 59).map (fun i => (i.zero, i.size, i.bytes)) = some (some (.agg #[.int .i64 0, .int .i64 0]), 2, 16) := by kernel_rfl
/-- A row of items of one's own, from some place of its block on. -/
def IO (B : Nat) (w : World) (v : Value) (M : List (Int × Int)) : Prop :=
  (M = [] ∧ v = .slice none 0 0) ∨ ∃ (g o cap : Nat) (cur : Array Value), v = .slice (some ⟨g, o, none⟩) M.length cap ∧ B ≤ g ∧ w.heap[g]? = some (.cells cur 59 (0, 0)) ∧ o + cap * 2 ≤ cur.size ∧ M.length ≤ cap ∧ cap ≤ maxLen ∧ ∀ (j : Nat) u, (icl M)[j]? = some u → cur[o + j]? = some u
section
variable {B : Nat} {w w' : World} {v : Value} {M : List (Int × Int)}
theorem IO.form (h : IO B w v M) : ∃ a c, v = .slice a M.length c := by
  rcases h with ⟨rfl, rfl⟩ | ⟨g, o, cap, cur, rfl, -⟩
  · exact ⟨none, 0, rfl⟩
  · exact ⟨_, cap, rfl⟩
theorem IO.lt (h : IO B w v M) : ∀ g, v.ownBlock = some g → B ≤ g ∧ g < w.heap.size := by
  rcases h with ⟨rfl, rfl⟩ | ⟨g, o, cap, cur, rfl, hB, h1, -⟩
  · intro g hg; cases hg
  · intro g' hg'
    have e : g' = g := by simpa [Value.ownBlock] using hg'.symm
    subst e
    exact ⟨hB, (Array.getElem?_eq_some_iff.1 h1).1⟩
theorem IO.keep (h : IO B w v M) (hk : ∀ g, v.ownBlock = some g → w'.heap[g]? = w.heap[g]?) : IO B w' v M := by
  rcases h with h | ⟨g, o, cap, cur, rfl, hB, h1, rest⟩
  · exact .inl h
  · exact .inr ⟨g, o, cap, cur, rfl, hB, (hk g rfl).trans h1, rest⟩
/-- Its items can be read. -/
theorem IO.at (h : IO B w v M) {k : Nat} {x : Int × Int} (hx : M[k]? = some x) : ∃ g o c, v = .slice (some ⟨g, o, none⟩) M.length c ∧ w.cell? ⟨g, o + k * 2, none⟩ = some (.int .i64 x.1) ∧ w.cell? ⟨g, o + k * 2 + 1, none⟩ = some (.int .i64 x.2) := by
  rcases h with ⟨rfl, rfl⟩ | ⟨g, o, cap, cur, rfl, hB, h1, h2, h3, h4, h5⟩
  · simp at hx
  · obtain ⟨c1, c2⟩ := icl_at M k x hx
    refine ⟨g, o, cap, rfl, ?_, ?_⟩
    · rw [cell_of_row w g _ cur 59 (0, 0) h1]; exact h5 _ _ c1
    · rw [Nat.add_assoc, cell_of_row w g _ cur 59 (0, 0) h1]; exact h5 _ _ c2
/-- Its first one is gone. -/
theorem IO.tail {g o cap : Nat} {x : Int × Int} (h : IO B w (.slice (some ⟨g, o, none⟩) (M.length + 1) cap) (x :: M)) (o' : Nat) (ho : o' = o + 2 ∨ (cap = 1 ∧ o' = o)) : IO B w (.slice (some ⟨g, o', none⟩) M.length (cap - 1)) M := by
  rcases h with ⟨h, -⟩ | ⟨g2, o2, cap2, cur, hv, hB, h1, h2, h3, h4, h5⟩
  · cases h
  · simp only [Value.slice.injEq, Option.some.injEq, Addr.mk.injEq] at hv
    obtain ⟨⟨rfl, rfl, -⟩, -, rfl⟩ := hv
    simp only [List.length_cons] at h3
    refine .inr ⟨g, o', cap - 1, cur, rfl, hB, h1, by omega, by omega, by omega, fun j u hu => ?_⟩
    have hk := (List.getElem?_eq_some_iff.1 hu).1
    rw [icl_len] at hk
    have := h5 (j + 2) u (by rw [icl_cons]; simpa using hu)
    rcases ho with rfl | ⟨rfl, rfl⟩
    · rw [show o + 2 + j = o + (j + 2) by omega]; exact this
    · omega
theorem IO.of_own {n : Nat} (hB : B ≤ w.heap.size) (ho : w'.ownsRow w.heap.size 59 2 v n (icl M)) (hn : n = M.length) : IO B w' v M := by
  subst hn
  rcases ho.2 with ⟨hv, h0⟩ | ⟨g, cap, cur, hv, hg, hc, hnc, hcm, hsz, htk⟩
  · exact .inl ⟨List.length_eq_zero_iff.1 h0, hv⟩
  · refine .inr ⟨g, 0, cap, cur, hv, by omega, hc, by omega, hnc, hcm, fun j u hu => ?_⟩
    have hj := (List.getElem?_eq_some_iff.1 hu).1
    rw [icl_len] at hj
    have e1 : (cur.toList.take (M.length * 2))[j]? = (icl M)[j]? := by rw [htk]
    rw [List.getElem?_take, if_pos hj, Array.getElem?_toList, hu] at e1
    rw [Nat.zero_add]
    exact e1
/-- One more at its end. -/
theorem IO.push (h : IO B w v M) (x : Int × Int) (ad : Addr) (hn : ∀ j u, [Value.int .i64 x.1, .int .i64 x.2][j]? = some u → w.cell? (ad.add j) = some u) (hB : B ≤ w.heap.size) (hl : M.length ≤ 1000000) :
    ∃ v' w', (Builtin.append_ #[52, 52] 52 #[v, .slice (some ad) 1 1]).run Try.prog w = .ok v' w' ∧ IO B w' v' (M ++ [x]) ∧ Kx (fun b => some b ≠ v.ownBlock) w w' ∧ (v'.ownBlock = v.ownBlock ∨ ∃ b, v'.ownBlock = some b ∧ w.heap.size ≤ b) := by
  obtain ⟨i0, hi, hz0, hz1, hz2⟩ := info_parts Try.infoIt
  have h1c : ∀ u ∈ [Value.int .i64 x.1, .int .i64 x.2], u.oneCell' = true := fun u hu => by simp at hu; rcases hu with rfl | rfl <;> rfl
  have hic : icl (M ++ [x]) = icl M ++ [.int .i64 x.1, .int .i64 x.2] := icl_app M [x]
  rcases h with ⟨rfl, rfl⟩ | ⟨g, o, cap, cur, rfl, hgB, h1, h2, h3, h4, h5⟩
  · obtain ⟨gn, cn, w', hr, ho, hg, hat, -⟩ := run_append_lies (P := Try.prog) w 52 52 w.heap.size 59 i0 (.agg #[.int .i64 0, .int .i64 0]) 2 16 Try.underlying52 hi hz0 hz1 hz2 rfl (by decide) (.slice none 0 0) 0 [] (World.ownsRow_nil _ _ _ _) ad 1 1 [.int .i64 x.1, .int .i64 x.2] rfl hn h1c (by decide) (by simp [maxLen]) (by decide) (Nat.le_refl _) _ rfl
    exact ⟨_, w', hr, IO.of_own hB (by rw [hic]; exact ho) rfl, ⟨hg.os, hg.tape, hg.output, hg.size, fun k hk hX => hg.block k hk hX⟩, .inr ⟨gn, rfl, (ho.lt gn rfl).1⟩⟩
  · by_cases hroom : M.length + 1 ≤ cap
    · have hcell : ∀ j, j < 2 → (w.cell? ⟨g, o + M.length * 2 + j, none⟩).isSome = true := fun j hj => by
        rw [cell_of_row w g _ cur 59 (0, 0) h1, Array.getElem?_eq_getElem (by omega)]
        rfl
      have hfr : ∀ j, j < 2 → w.frozen? ⟨g, o + M.length * 2 + j, none⟩ = false := fun j hj => by simp [World.frozen?, h1]
      have hr := run_append_room_cells (P := Try.prog) w 52 52 59 i0 Try.underlying52 hi g o M.length cap ad 1 1 [.int .i64 x.1, .int .i64 x.2] (by rw [hz1]; rfl) hn h1c hroom (by rw [hz1]; exact hcell) (by rw [hz1]; exact hfr)
      rw [hz1] at hr
      have hw : w.setCells g (o + M.length * 2) [Value.int .i64 x.1, .int .i64 x.2] = (w.setCell ⟨g, o + M.length * 2, none⟩ (.int .i64 x.1)).setCell ⟨g, o + M.length * 2 + 1, none⟩ (.int .i64 x.2) := rfl
      rw [hw] at hr
      refine ⟨_, _, hr, .inr ⟨g, o, cap, (cur.setIfInBounds (o + M.length * 2) (.int .i64 x.1)).setIfInBounds (o + M.length * 2 + 1) (.int .i64 x.2), by simp, hgB, heap_setCell_atc (heap_setCell_atc h1 _) _, by simpa using h2, by simpa using hroom, h4, fun j u hu => ?_⟩, ((Kx.refl _ w).set (p := ⟨g, o + M.length * 2, none⟩) (.inr (fun e => e rfl)) _).set (p := ⟨g, o + M.length * 2 + 1, none⟩) (.inr (fun e => e rfl)) _, .inl rfl⟩
      rw [hic] at hu
      have hj := (List.getElem?_eq_some_iff.1 hu).1
      rw [List.length_append, icl_len] at hj
      simp only [List.length_cons, List.length_nil] at hj
      rw [Array.getElem?_setIfInBounds, Array.getElem?_setIfInBounds]
      by_cases e1 : j = M.length * 2 + 1
      · subst e1
        rw [List.getElem?_append_right (by rw [icl_len]; omega), icl_len] at hu
        rw [if_pos (by omega), if_pos (by simp; omega)]
        simpa using hu
      · rw [if_neg (by omega)]
        by_cases e2 : j = M.length * 2
        · subst e2
          rw [List.getElem?_append_right (by rw [icl_len]; omega), icl_len] at hu
          rw [if_pos rfl, if_pos (by omega)]
          simpa using hu
        · rw [if_neg (by omega)]
          rw [List.getElem?_append_left (by rw [icl_len]; omega)] at hu
          exact h5 j u hu
    · obtain ⟨v', w', hr, ho, hg⟩ := run_append_arg_grows (P := Try.prog) w 52 52 59 i0 (.agg #[.int .i64 0, .int .i64 0]) 2 16 Try.underlying52 hi hz0 hz1 hz2 rfl (by decide) ⟨g, o, none⟩ M.length cap (icl M) (icl_len M) (fun j u hu => by
        rw [add_atc, cell_of_row w g (o + j) cur 59 (0, 0) h1]
        exact h5 j u hu) ad 1 1 [.int .i64 x.1, .int .i64 x.2] rfl hn (by omega) (by unfold maxLen; omega) (by omega)
      obtain ⟨gn, cn, hv, hge, -⟩ := ho.form (by omega)
      exact ⟨v', w', hr, IO.of_own hB (by rw [hic]; exact ho) (by simp), ⟨hg.os, hg.tape, hg.output, hg.size, fun k hk _ => hg.block k hk (by simp)⟩, .inr ⟨gn, by rw [hv]; rfl, hge⟩⟩
end
/-- An append of one item, at a step of a region that draws. -/
theorem step_pushI {ops : Array Oper} {o : Oper} {a : Act} {w : World} {K : Act → World → Prop} {Q : Exit → Act → World → Prop} {E : Prop} (hgd : o.guard = none) (s x : Operand)
    (ho : o.op = .call { callee := .builtin .append, args := #[s, x], argTypes := #[52, 52] }) (hty : o.type = 52) {B : Nat} {v : Value} {M : List (Int × Int)} (h : IO B w v M) (hs : a.eval s = v) (y : Int × Int) (ad : Addr) (hx : a.eval x = .slice (some ad) 1 1) (hn : ∀ j u, [Value.int .i64 y.1, .int .i64 y.2][j]? = some u → w.cell? (ad.add j) = some u) (hB : B ≤ w.heap.size) (hl : M.length ≤ 1000000)
    (hK : ∀ v' w', IO B w' v' (M ++ [y]) → Kx (fun b => some b ≠ v.ownBlock) w w' → (v'.ownBlock = v.ownBlock ∨ ∃ b, v'.ownBlock = some b ∧ w.heap.size ≤ b) → K (a.put o.dst v') w') :
    if Region.wanted o (yielded ops a.tmps) = true then Oper.wp Try.prog o a w K Q else E := by
  have hw : Region.wanted o (yielded ops a.tmps) = true := by simp [Region.wanted, hgd]
  rw [if_pos hw]
  obtain ⟨v', w', hr, h1, h2, h3⟩ := h.push y ad hn hB hl
  unfold Oper.wp execOp
  simp only [ho, hty, resolve, invoke, builtin, Sem.run_bind, Sem.run_pure, Result.andThen_ok, List.map_toArray, List.map_cons, List.map_nil, hs, hx, hr]
  exact hK v' w' h1 h2 h3
end Go.Proofs.Ytbepaimbbclejaa

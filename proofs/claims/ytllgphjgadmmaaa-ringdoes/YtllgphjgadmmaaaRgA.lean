import Derived.Test.YtllgphjgadmmaaaRnkA
import Derived.ArgAppend
/- Rings: a row of numbers that is cut at its head and grows at its end; what is asked of package ring. -/
namespace Go.Proofs.Ytllgphjgadmmaaa
open Go.RowKit

theorem add_at (g o k : Nat) : (⟨g, o, none⟩ : Addr).add k = ⟨g, o + k, none⟩ := by unfold Addr.add; split <;> simp_all
/-- A row of numbers of one's own, from some place of its block on. -/
def OR (w : World) (v : Value) (M : List Int) : Prop :=
  (M = [] ∧ v = .slice none 0 0) ∨ ∃ (g o cap : Nat) (cur : Array Value), v = .slice (some ⟨g, o, none⟩) M.length cap ∧ w.heap[g]? = some (.cells cur 3 (0, 0)) ∧ o + cap ≤ cur.size ∧ M.length ≤ cap ∧ cap ≤ maxLen ∧ ∀ (k : Nat) x, M[k]? = some x → cur[o + k]? = some (.int .i64 x)
theorem OR.form {w : World} {v : Value} {M : List Int} (h : OR w v M) : ∃ a c, v = .slice a M.length c := by
  rcases h with ⟨rfl, rfl⟩ | ⟨g, o, cap, cur, rfl, -⟩
  · exact ⟨none, 0, rfl⟩
  · exact ⟨_, cap, rfl⟩
theorem OR.lt {w : World} {v : Value} {M : List Int} (h : OR w v M) : ∀ g, v.ownBlock = some g → g < w.heap.size := by
  rcases h with ⟨rfl, rfl⟩ | ⟨g, o, cap, cur, rfl, h1, -⟩
  · intro g hg; cases hg
  · intro g' hg'
    have e : g' = g := by simpa [Value.ownBlock] using hg'.symm
    subst e
    exact (Array.getElem?_eq_some_iff.1 h1).1
theorem OR.keep {w w' : World} {v : Value} {M : List Int} (h : OR w v M) (hk : ∀ g, v.ownBlock = some g → w'.heap[g]? = w.heap[g]?) : OR w' v M := by
  rcases h with h | ⟨g, o, cap, cur, rfl, h1, rest⟩
  · exact .inl h
  · exact .inr ⟨g, o, cap, cur, rfl, (hk g rfl).trans h1, rest⟩
theorem OR.keepX {X : Nat → Prop} {w w' : World} {v : Value} {M : List Int} (h : OR w v M) (hk : Kx X w w') (hX : ∀ g, v.ownBlock = some g → X g) : OR w' v M :=
  h.keep (fun g hg => hk.block g (h.lt g hg) (hX g hg))
theorem OR.ir {w : World} {v : Value} {M : List Int} (h : OR w v M) : IR w v M := by
  rcases h with ⟨rfl, rfl⟩ | ⟨g, o, cap, cur, rfl, h1, h2, h3, h4, h5⟩
  · exact ⟨none, 0, rfl, fun e => absurd rfl e⟩
  · refine ⟨_, cap, rfl, fun _ => ⟨g, o, rfl, fun k x hx => ?_⟩⟩
    rw [cell_of_row w g (o + k) cur 3 (0, 0) h1]
    exact h5 k x hx
/-- Its first one is gone. -/
theorem OR.tail {w : World} {g o cap : Nat} {x : Int} {M : List Int} (h : OR w (.slice (some ⟨g, o, none⟩) (M.length + 1) cap) (x :: M)) (o' : Nat) (ho : o' = o + 1 ∨ (cap = 1 ∧ o' = o)) : OR w (.slice (some ⟨g, o', none⟩) M.length (cap - 1)) M := by
  rcases h with ⟨h, -⟩ | ⟨g2, o2, cap2, cur, hv, h1, h2, h3, h4, h5⟩
  · cases h
  · simp only [Value.slice.injEq, Option.some.injEq, Addr.mk.injEq] at hv
    obtain ⟨⟨rfl, rfl, -⟩, -, rfl⟩ := hv
    simp only [List.length_cons] at h3
    refine .inr ⟨g, o', cap - 1, cur, rfl, h1, by omega, by omega, by omega, fun k y hy => ?_⟩
    have hk := (List.getElem?_eq_some_iff.1 hy).1
    have := h5 (k + 1) y (by simpa using hy)
    rcases ho with rfl | ⟨rfl, rfl⟩
    · rw [show o + 1 + k = o + (k + 1) by omega]; exact this
    · omega
theorem heap_setCell_at {w : World} {g o : Nat} {cur : Array Value} {t : TypeId} {fr : Nat × Nat} (h : w.heap[g]? = some (.cells cur t fr)) (v : Value) : (w.setCell ⟨g, o, none⟩ v).heap[g]? = some (.cells (cur.setIfInBounds o v) t fr) := by
  simp only [World.setCell, Array.getElem?_modify, if_true, h]
  rfl
/-- One more at its end. -/
theorem OR.push {w : World} {v : Value} {M : List Int} (h : OR w v M) (x : Int) (ad : Addr) (hn : w.cell? ad = some (.int .i64 x)) (hl : M.length ≤ 1000000) :
    ∃ v' w', (Builtin.append_ #[28, 28] 28 #[v, .slice (some ad) 1 1]).run Try.prog w = .ok v' w' ∧ OR w' v' (M ++ [x]) ∧ Kx (fun b => some b ≠ v.ownBlock) w w' ∧ (v'.ownBlock = v.ownBlock ∨ ∃ b, v'.ownBlock = some b ∧ w.heap.size ≤ b) := by
  obtain ⟨i0, hi, hz0, hz1, hz2⟩ := info_parts Try.info3
  have hsp : ad = ⟨ad.block, ad.off, none⟩ := by
    obtain ⟨b, o, sp⟩ := ad
    cases sp with
    | none => rfl
    | some y => unfold World.cell? at hn; split at hn <;> simp at hn
  have hnews : ∀ j u, [Value.int .i64 x][j]? = some u → w.cell? (ad.add j) = some u := fun j u hu => by
    match j, hu with
    | 0, hu =>
      simp at hu
      subst hu
      have : ad.add 0 = ad := by rw [hsp, add_at]; rfl
      rw [this]
      exact hn
  have h1c : ∀ u ∈ [Value.int .i64 x], u.oneCell' = true := fun u hu => by simp at hu; subst hu; rfl
  have ofo : ∀ {w' : World} {v' : Value} {B n : Nat}, w'.ownsRow B 3 1 v' n (ints M ++ [.int .i64 x]) → n = M.length + 1 → OR w' v' (M ++ [x]) := fun {w' v' B n} ho hn' => by
    rcases ho.2 with ⟨-, h0⟩ | ⟨g, cap, cur, hv, -, hg, hnc, hcm, hsz, htk⟩
    · omega
    · refine .inr ⟨g, 0, cap, cur, by rw [hv, hn']; simp, hg, by omega, by simp; omega, hcm, fun k y hy => ?_⟩
      have hk := (List.getElem?_eq_some_iff.1 hy).1
      simp only [List.length_append, List.length_cons, List.length_nil] at hk
      have e1 : (cur.toList.take (n * 1))[k]? = (ints M ++ [Value.int .i64 x])[k]? := by rw [htk]
      rw [List.getElem?_take, if_pos (by omega), Array.getElem?_toList] at e1
      rw [Nat.zero_add, e1]
      have e2 : ints M ++ [Value.int .i64 x] = ints (M ++ [x]) := by simp [ints]
      rw [e2]
      unfold ints
      rw [List.getElem?_map, hy]
      rfl
  rcases h with ⟨rfl, rfl⟩ | ⟨g, o, cap, cur, rfl, h1, h2, h3, h4, h5⟩
  · obtain ⟨gn, cn, w', hr, ho, hg, hat, -⟩ := run_append_lies (P := Try.prog) w 28 28 w.heap.size 3 i0 (.int .i64 0) 1 8 Try.underlying28 hi hz0 hz1 hz2 rfl (by decide) (.slice none 0 0) 0 [] (World.ownsRow_nil _ _ _ _) ad 1 1 [.int .i64 x] rfl hnews h1c (by decide) (by simp [maxLen]) (by decide) (Nat.le_refl _) _ rfl
    refine ⟨_, w', hr, ofo ho rfl, ⟨hg.os, hg.tape, hg.output, hg.size, fun k hk hX => hg.block k hk hX⟩, .inr ⟨gn, rfl, (ho.lt gn rfl).1⟩⟩
  · by_cases hroom : M.length + 1 ≤ cap
    · have hcell : ∀ j, j < 1 → (w.cell? ⟨g, o + M.length * 1 + j, none⟩).isSome = true := fun j hj => by
        rw [cell_of_row w g _ cur 3 (0, 0) h1, Array.getElem?_eq_getElem (by omega)]
        rfl
      have hfr : ∀ j, j < 1 → w.frozen? ⟨g, o + M.length * 1 + j, none⟩ = false := fun j hj => by simp [World.frozen?, h1]
      have hr := run_append_room_cells (P := Try.prog) w 28 28 3 i0 Try.underlying28 hi g o M.length cap ad 1 1 [.int .i64 x] (by rw [hz1]; rfl) hnews h1c hroom (by rw [hz1]; exact hcell) (by rw [hz1]; exact hfr)
      rw [hz1] at hr
      refine ⟨_, _, hr, .inr ⟨g, o, cap, cur.setIfInBounds (o + M.length * 1) (.int .i64 x), by simp, heap_setCell_at h1 _, by simpa using h2, by simpa using hroom, h4, fun k y hy => ?_⟩, (Kx.refl _ w).set (p := ⟨g, o + M.length * 1, none⟩) (.inr (fun e => e rfl)) _, .inl rfl⟩
      have hk := (List.getElem?_eq_some_iff.1 hy).1
      simp only [List.length_append, List.length_cons, List.length_nil] at hk
      rw [Array.getElem?_setIfInBounds]
      by_cases e : k = M.length
      · subst e
        rw [if_pos (by omega), if_pos (by omega)]
        have : x = y := by simpa using hy
        rw [this]
      · rw [if_neg (by omega)]
        rw [List.getElem?_append_left (by omega)] at hy
        exact h5 k y hy
    · obtain ⟨v', w', hr, ho, hg⟩ := run_append_arg_grows (P := Try.prog) w 28 28 3 i0 (.int .i64 0) 1 8 Try.underlying28 hi hz0 hz1 hz2 rfl (by decide) ⟨g, o, none⟩ M.length cap (ints M) (by rw [ints_len]; omega) (fun j u hu => by
        rw [add_at, cell_of_row w g (o + j) cur 3 (0, 0) h1]
        simp only [ints, List.getElem?_map, Option.map_eq_some_iff] at hu
        obtain ⟨y, hy, rfl⟩ := hu
        exact h5 j y hy) ad 1 1 [.int .i64 x] rfl hnews (by omega) (by unfold maxLen; omega) (by omega)
      obtain ⟨gn, cn, hv, hge, -⟩ := ho.form (by omega)
      refine ⟨v', w', hr, ofo ho rfl, ⟨hg.os, hg.tape, hg.output, hg.size, fun k hk _ => hg.block k hk (by simp)⟩, .inr ⟨gn, by rw [hv]; rfl, hge⟩⟩
/-- An append of one number, at a step of a region that draws. -/
theorem step_push {ops : Array Oper} {o : Oper} {a : Act} {w : World} {K : Act → World → Prop} {Q : Exit → Act → World → Prop} {E : Prop} (hgd : o.guard = none) (s x : Operand)
    (ho : o.op = .call { callee := .builtin .append, args := #[s, x], argTypes := #[28, 28] }) (hty : o.type = 28) {v : Value} {M : List Int} (h : OR w v M) (hs : a.eval s = v) (y : Int) (ad : Addr) (hx : a.eval x = .slice (some ad) 1 1) (hn : w.cell? ad = some (.int .i64 y)) (hl : M.length ≤ 1000000)
    (hK : ∀ v' w', OR w' v' (M ++ [y]) → Kx (fun b => some b ≠ v.ownBlock) w w' → (v'.ownBlock = v.ownBlock ∨ ∃ b, v'.ownBlock = some b ∧ w.heap.size ≤ b) → K (a.put o.dst v') w') :
    if Region.wanted o (yielded ops a.tmps) = true then Oper.wp Try.prog o a w K Q else E := by
  have hw : Region.wanted o (yielded ops a.tmps) = true := by simp [Region.wanted, hgd]
  rw [if_pos hw]
  obtain ⟨v', w', hr, h1, h2, h3⟩ := h.push y ad hn hl
  unfold Oper.wp execOp
  simp only [ho, hty, resolve, invoke, builtin, Sem.run_bind, Sem.run_pure, Result.andThen_ok, List.map_toArray, List.map_cons, List.map_nil, hs, hx, hr]
  exact hK v' w' h1 h2 h3

/-- As many things as slots. -/
def fullR (s : Nat) (M : List Int) : Bool := decide (0 < s) && decide (s ≤ M.length)
/-- What is asked of a ring of numbers: RI F w p s M: at p lies a ring of s slots that holds M; all that it reaches lies in blocks of F. -/
structure RingOK (RI : (Nat → Prop) → World → Nat → Nat → List Int → Prop) : Prop where
  lt : ∀ {F w p s M}, RI F w p s M → ∀ b, F b → b < w.heap.size
  keep : ∀ {F w w' p s M}, RI F w p s M → Kx F w w' → RI F w' p s M
  new : ∀ (n : Int) (w : World), Calls Try.prog 6 #[.int .i64 n] w fun e w' => ∃ (p : Nat) (F : Nat → Prop), e = .returned (.pointer (some ⟨p, 0, none⟩)) ∧ RI F w' p n.toNat [] ∧ Below w.heap.size w w' ∧ ∀ b, F b → w.heap.size ≤ b
  slots : ∀ {F w p s M}, RI F w p s M → Calls Try.prog 7 #[.pointer (some ⟨p, 0, none⟩)] w fun e w' => e = .returned (.int .i64 (s : Int)) ∧ w' = w
  len : ∀ {F w p s M}, RI F w p s M → Calls Try.prog 8 #[.pointer (some ⟨p, 0, none⟩)] w fun e w' => e = .returned (.int .i64 (M.length : Int)) ∧ w' = w
  ful : ∀ {F w p s M}, RI F w p s M → Calls Try.prog 9 #[.pointer (some ⟨p, 0, none⟩)] w fun e w' => e = .returned (.bool (fullR s M)) ∧ ∃ m, w' = w.drewN m
  put : ∀ {F w p s M} (x : Int), RI F w p s M → M.length ≤ 1000 → Calls Try.prog 10 #[.pointer (some ⟨p, 0, none⟩), .int .i64 x] w fun e w' => e = .returned (.bool (!fullR s M)) ∧ ∃ F' : Nat → Prop, RI F' w' p s (if fullR s M then M else M ++ [x]) ∧ Kx (fun b => ¬ F b) w w' ∧ ∀ b, F' b → F b ∨ w.heap.size ≤ b
  take : ∀ {F w p s M}, RI F w p s M → Calls Try.prog 11 #[.pointer (some ⟨p, 0, none⟩)] w fun e w' => e = .returned (.tuple #[.int .i64 (M.headD 0), .bool (!M.isEmpty)]) ∧ ∃ F' : Nat → Prop, RI F' w' p s M.tail ∧ Kx (fun b => ¬ F b) w w' ∧ ∀ b, F' b → F b ∨ w.heap.size ≤ b
  all : ∀ {F w p s M}, RI F w p s M → M.length ≤ 1000 → Calls Try.prog 12 #[.pointer (some ⟨p, 0, none⟩)] w fun e w' => ∃ a c, e = .returned (.slice a M.length c) ∧ (M ≠ [] → ∃ g, a = some ⟨g, 0, none⟩ ∧ w.heap.size ≤ g ∧ AR g w' M) ∧ Below w.heap.size w w'
  clear : ∀ {F w p s M}, RI F w p s M → M.length ≤ 1000 → Calls Try.prog 14 #[.pointer (some ⟨p, 0, none⟩)] w fun e w' => ∃ v, e = .returned v ∧ IR w' v M ∧ ∃ F' : Nat → Prop, RI F' w' p s [] ∧ Kx (fun b => ¬ F b) w w' ∧ ∀ b, F' b → F b ∨ w.heap.size ≤ b
end Go.Proofs.Ytllgphjgadmmaaa

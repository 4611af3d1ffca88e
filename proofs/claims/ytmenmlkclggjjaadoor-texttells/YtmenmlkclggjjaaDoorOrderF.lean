/- Order's contract: what it hands back are the faults in order, in memory of the call's own. -/
import Derived.Test.YtmenmlkclggjjaaDoorSortF
namespace Go.Proofs.YtmenmlkclggjjaaDoor
open Go.RowKit

theorem compactTo_up (d : Array (Int × Int)) (hs : ∀ i j, i < j → j < d.size → Pl.flt d[j]! d[i]! = false) (m : Nat) (hm : m ≤ d.size) :
    Pl.Up (Lib.compactUpTo d m) ∧ ∀ z, z ∈ Lib.compactUpTo d m ↔ ∃ j, j < m ∧ d[j]! = z := by
  induction m with
  | zero => exact ⟨by simp [Lib.compactUpTo, Pl.Up], by simp [Lib.compactUpTo]⟩
  | succ m ih =>
    obtain ⟨hu, hz⟩ := ih (by omega)
    rw [Lib.compactUpTo_succ]
    by_cases hk : Lib.keeps d m = true
    · rw [if_pos hk]
      have hk' : m = 0 ∨ d[m]! ≠ d[m - 1]! := by simpa [Lib.keeps] using hk
      refine ⟨?_, ?_⟩
      · refine List.pairwise_append.2 ⟨hu, by simp, ?_⟩
        intro x hx y hy
        obtain ⟨j, hj, rfl⟩ := (hz x).1 hx
        obtain rfl : y = d[m]! := by simpa using hy
        cases hc : Pl.flt d[j]! d[m]! with
        | true => rfl
        | false =>
          have e := Pl.flt_eq hc (hs j m hj (by omega))
          have hne : d[m]! ≠ d[m - 1]! := by
            rcases hk' with h | h
            · omega
            · exact h
          by_cases hjm : j = m - 1
          · subst hjm
            exact absurd e.symm hne
          · have h1 := hs j (m - 1) (by omega) (by omega)
            have h2 := hs (m - 1) m (by omega) (by omega)
            rw [e] at h1
            exact absurd (Pl.flt_eq h2 h1) hne
      · intro z
        simp only [List.mem_append, List.mem_singleton, hz]
        constructor
        · rintro (⟨j, h1, h2⟩ | h)
          · exact ⟨j, by omega, h2⟩
          · exact ⟨m, by omega, h.symm⟩
        · rintro ⟨j, h1, h2⟩
          by_cases e : j = m
          · subst e; exact .inr h2.symm
          · exact .inl ⟨j, by omega, h2⟩
    · rw [if_neg hk, List.append_nil]
      have hk' : ¬ (m = 0 ∨ d[m]! ≠ d[m - 1]!) := by simpa [Lib.keeps] using hk
      have h0 : m ≠ 0 := fun h => hk' (.inl h)
      have he : d[m]! = d[m - 1]! := by
        by_cases e : d[m]! = d[m - 1]!
        · exact e
        · exact absurd (.inr e) hk'
      refine ⟨hu, fun z => ?_⟩
      rw [hz]
      constructor
      · rintro ⟨j, h1, h2⟩; exact ⟨j, by omega, h2⟩
      · rintro ⟨j, h1, h2⟩
        by_cases e : j = m
        · subst e; exact ⟨j - 1, by omega, he.symm.trans h2⟩
        · exact ⟨j, by omega, h2⟩

theorem compact_ord (l F : List (Int × Int)) (hp : F.Perm (coded l l.length)) (hs : ∀ i j, i < j → j < F.length → Pl.flt (F[j]?.getD (0, 0)) (F[i]?.getD (0, 0)) = false) : Lib.compact F = Pl.ord l := by
  have h := compactTo_up F.toArray (fun i j hij hj => by
    have hj' : j < F.length := by simpa using hj
    rw [arr_get F i (by omega), arr_get F j hj']
    exact hs i j hij hj') F.length (by simp)
  refine Pl.up_unique _ _ h.1 (Pl.ord_up l) fun z => ?_
  have h2 : z ∈ Lib.compact F ↔ z ∈ F := by
    show z ∈ Lib.compactUpTo F.toArray F.length ↔ _
    rw [h.2 z]
    constructor
    · rintro ⟨j, hj, rfl⟩
      rw [arr_get F j hj, List.getElem?_eq_getElem hj]
      exact List.getElem_mem hj
    · intro hz
      obtain ⟨j, hj, rfl⟩ := List.getElem_of_mem hz
      exact ⟨j, hj, by rw [arr_get F j hj, List.getElem?_eq_getElem hj]; rfl⟩
  rw [h2, hp.mem_iff, mem_coded l l.length (Nat.le_refl _) z, List.take_length, Pl.mem_ord]

/-- A slice of faults, wherever it lies. -/
def FSlice (w : World) (v : Value) (l : List (Int × Int)) : Prop :=
  (l = [] ∧ ∃ a cap, v = .slice a 0 cap) ∨ (0 < l.length ∧ ∃ b off cap, v = .slice (some ⟨b, off, none⟩) l.length cap ∧ b < w.heap.size ∧ FAt w b off l)

theorem FSlice.below {w w' : World} {v : Value} {l : List (Int × Int)} (h : FSlice w v l) (hb : Below w.heap.size w w') : FSlice w' v l := by
  rcases h with h | ⟨hp, b, off, cap, hv, hlt, hF⟩
  · exact .inl h
  · exact .inr ⟨hp, b, off, cap, hv, by have := hb.size; omega, hF.below hb hlt⟩

theorem FSlice.of_own {w : World} {B : Nat} {v : Value} {l : List (Int × Int)} (h : w.ownsRow B 24 2 v l.length (fcells l)) : FSlice w v l := by
  by_cases hp : 0 < l.length
  · obtain ⟨g, cap, hv, _, hg, _, _, hF⟩ := own_fat h hp
    exact .inr ⟨hp, g, 0, cap, hv, hg, hF⟩
  · have e : l = [] := List.eq_nil_of_length_eq_zero (by omega)
    subst e
    rcases h.2 with ⟨hv, _⟩ | ⟨g, cap, cur, hv, _⟩
    · exact .inl ⟨rfl, _, _, hv⟩
    · exact .inl ⟨rfl, _, _, hv⟩

theorem order_any (l : List (Int × Int)) (v : Value) (w : World) (hl : l.length ≤ 300) (hv : FSlice w v l) :
    Calls Tryd.prog 13 #[v] w fun e w' => ∃ u, e = .returned u ∧ w'.ownsRow w.heap.size 24 2 u (Pl.ord l).length (fcells (Pl.ord l)) ∧ Below w.heap.size w w' := by
  rcases hv with ⟨rfl, a, cap, rfl⟩ | ⟨hp, b, off, cap, rfl, hlt, hF⟩
  · refine (order_zero sort_said compact_said a cap w).mono ?_
    rintro e w1 ⟨rfl, hb⟩
    exact ⟨_, rfl, World.ownsRow_nil _ _ _ _, hb⟩
  · refine (order_some sort_said compact_said l b off cap w hl hlt hF).mono ?_
    rintro e w1 ⟨u, F', rfl, hperm, hsort, hown, hb, _⟩
    have e1 := compact_ord l F' hperm hsort
    rw [e1] at hown
    exact ⟨_, rfl, hown, hb⟩

set_option maxRecDepth 100000 in
set_option maxHeartbeats 400000 in
theorem samef_zero (a1 a2 : Option Addr) (c1 c2 : Nat) (w : World) :
    Calls Tryd.prog 18 #[.slice a1 0 c1, .slice a2 0 c2] w fun e w' => e = .returned (.bool true) ∧ w' = w := by
  go_enter Tryd.func18, Tryd.ntmps18
  go_wp2
  go_loop [5] (fun i => i = .int .i64 0) (fun i => 0)
  case atStart => rfl
  case round =>
    obtain rfl := hrel
    go_wp2
    go_ret
    exact ⟨rfl, rfl⟩

set_option maxRecDepth 100000 in
set_option maxHeartbeats 400000 in
theorem samef_some (l : List (Int × Int)) (g1 o1 g2 o2 c1 c2 : Nat) (w : World) (hn : l.length ≤ 1000000) (h1 : FAt w g1 o1 l) (h2 : FAt w g2 o2 l) :
    Calls Tryd.prog 18 #[.slice (some ⟨g1, o1, none⟩) l.length c1, .slice (some ⟨g2, o2, none⟩) l.length c2] w fun e w' => e = .returned (.bool true) ∧ Below w.heap.size w w' := by
  go_enter Tryd.func18, Tryd.ntmps18
  go_wp2
  go_loopw [5] (fun i wr => ∃ k : Nat, k ≤ l.length ∧ i = .int .i64 k ∧ ∃ n, wr = w.drewN n) (fun i _ => l.length - (intOf i).toNat)
  case atStart => exact ⟨0, Nat.zero_le _, rfl, 0, rfl⟩
  case round =>
    obtain ⟨k, hk, rfl, n, rfl⟩ := hrel
    by_cases hlt : k < l.length
    · obtain ⟨a0, a1⟩ := h1 k hlt
      obtain ⟨b0, b1⟩ := h2 k hlt
      generalize l[k]?.getD (0, 0) = x at a0 a1 b0 b1
      have hneq : ∀ W, Sem.run Tryd.prog (binOp .neq 24 (.agg #[.int .i64 x.1, .int .i64 x.2]) (.agg #[.int .i64 x.1, .int .i64 x.2])) W = .ok (.bool false) W := fun W => by rw [neqF]; simp
      go_wp2
      go_quiet (fail)
      go_wp2
      go_roundw
      case rel => exact ⟨k + 1, by omega, by go_num, _, rfl⟩
      case measure => simp [intOf]; omega
    · go_wp2
      go_ret
      exact ⟨rfl, below_drewN (Below.refl _ _) _⟩

theorem samef_any (l : List (Int × Int)) (v1 v2 : Value) (w : World) (hn : l.length ≤ 1000000) (h1 : FSlice w v1 l) (h2 : FSlice w v2 l) :
    Calls Tryd.prog 18 #[v1, v2] w fun e w' => e = .returned (.bool true) ∧ Below w.heap.size w w' := by
  rcases h1 with ⟨rfl, a1, c1, rfl⟩ | ⟨hp, b1, o1, c1, rfl, _, hF1⟩
  · rcases h2 with ⟨_, a2, c2, rfl⟩ | ⟨hp, _⟩
    · refine (samef_zero a1 a2 c1 c2 w).mono ?_
      rintro e w1 ⟨rfl, rfl⟩
      exact ⟨rfl, Below.refl _ _⟩
    · simp at hp
  · rcases h2 with ⟨rfl, _⟩ | ⟨_, b2, o2, c2, rfl, _, hF2⟩
    · simp at hp
    · exact samef_some l b1 o1 b2 o2 c1 c2 w hn hF1 hF2
end Go.Proofs.YtmenmlkclggjjaaDoor

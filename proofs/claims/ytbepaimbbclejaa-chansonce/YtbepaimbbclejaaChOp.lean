import Derived.Test.YtbepaimbbclejaaChDe
import Derived.BigQuiet
/- The document's book: are items the same, channels? -/
namespace Go.Proofs.Ytbepaimbbclejaa
open Go.RowKit

/-- A row of items that can be read. -/
def ItR (w : World) (v : Value) (M : List (Int × Int)) : Prop :=
  ∃ a c, v = .slice a M.length c ∧ (M ≠ [] → ∃ g o, a = some ⟨g, o, none⟩ ∧ (∀ (k : Nat) x, M[k]? = some x → w.cell? ⟨g, o + k * 2, none⟩ = some (.int .i64 x.1) ∧ w.cell? ⟨g, o + k * 2 + 1, none⟩ = some (.int .i64 x.2)))
theorem IO.itr {B : Nat} {w : World} {v : Value} {M : List (Int × Int)} (h : IO B w v M) : ItR w v M := by
  obtain ⟨a, c, rfl⟩ := h.form
  refine ⟨a, c, rfl, fun hn => ?_⟩
  obtain ⟨x, hx⟩ : ∃ x, M[0]? = some x := ⟨_, List.getElem?_eq_getElem (List.length_pos_iff.2 hn)⟩
  obtain ⟨g, o, c', hv, -⟩ := h.at hx
  obtain ⟨rfl, rfl⟩ : a = some ⟨g, o, none⟩ ∧ c = c' := by simpa using hv
  refine ⟨g, o, rfl, fun k y hy => ?_⟩
  obtain ⟨g', o', c'', hv', h1, h2⟩ := h.at hy
  obtain ⟨⟨rfl, rfl⟩, rfl⟩ : (g = g' ∧ o = o') ∧ c = c'' := by simpa using hv'
  exact ⟨h1, h2⟩
theorem ItR.keep {w w' : World} {v : Value} {M : List (Int × Int)} (h : ItR w v M) (hb : Below w.heap.size w w') : ItR w' v M := by
  obtain ⟨a, c, h1, h2⟩ := h
  refine ⟨a, c, h1, fun hn => ?_⟩
  obtain ⟨g, o, h3, h4⟩ := h2 hn
  exact ⟨g, o, h3, fun k x hx => ⟨bsome hb (h4 k x hx).1, bsome hb (h4 k x hx).2⟩⟩
set_option maxRecDepth 100000
set_option maxHeartbeats 1000000
theorem It.neq_same (x y : Int) (w : World) : Sem.run Try.prog (binOp .neq 59 (.agg #[.int .i64 x, .int .i64 y]) (.agg #[.int .i64 x, .int .i64 y])) w = .ok (.bool false) w := by
  have u3 := Try.underlying3
  have a3 := Try.isAgg3
  have z3 := Try.sizeOf3
  have u2 := Try.underlying2
  have a2 := Try.isAgg2
  have z2 := Try.sizeOf2
  rw [run_neq_struct, show (10000 : Nat) = 9999 + 1 from rfl, run_equalIn_agg w 9999 59 _ _ (by exact Try.underlying59) (by kernel_rfl)]
  simp only [Program.fieldsOf, Try.underlying59]
  go_simp
theorem sameItems_any (l : List (Int × Int)) (v1 v2 : Value) (w : World) (hn : l.length ≤ 1000000) (h1 : ItR w v1 l) (h2 : ItR w v2 l) :
    Calls Try.prog 33 #[v1, v2] w fun e w' => e = .returned (.bool true) ∧ ∃ n, w' = w.drewN n := by
  obtain ⟨a1, c1, rfl, h1⟩ := h1
  obtain ⟨a2, c2, rfl, h2⟩ := h2
  by_cases h0 : l = []
  · subst h0
    go_enter Try.func33, Try.ntmps33
    go_wp2
    go_loop [5] (fun i => i = .int .i64 0) (fun i => 0)
    case atStart => rfl
    case round =>
      obtain rfl := hrel
      go_wp2
      go_ret
      exact ⟨rfl, 0, rfl⟩
  · obtain ⟨g1, o1, rfl, q1⟩ := h1 h0
    obtain ⟨g2, o2, rfl, q2⟩ := h2 h0
    have H1 := hide q1
    have H2 := hide q2
    clear h1 h2 h0 q1 q2
    go_enter Try.func33, Try.ntmps33
    go_wp2
    go_loopw [5] (fun i wr => ∃ k : Nat, k ≤ l.length ∧ i = .int .i64 k ∧ ∃ n, wr = w.drewN n) (fun i _ => l.length - (intOf i).toNat)
    case atStart => exact ⟨0, Nat.zero_le _, rfl, 0, rfl⟩
    case round =>
      obtain ⟨k, hk, rfl, n, rfl⟩ := hrel
      by_cases hlt : k < l.length
      · obtain ⟨x, hx⟩ : ∃ x, l[k]? = some x := ⟨_, List.getElem?_eq_getElem hlt⟩
        obtain ⟨g1a, g1b⟩ := H1.out k x hx
        obtain ⟨g2a, g2b⟩ := H2.out k x hx
        obtain ⟨x1, x2⟩ := x
        dsimp only at g1a g1b g2a g2b
        have heq := It.neq_same x1 x2
        clear hx
        go_wp2
        go_quiet (fail)
        go_wp2
        go_roundw
        case rel => exact ⟨k + 1, by omega, by go_num, _, rfl⟩
        case measure => simp [intOf]; omega
      · go_wp2
        go_ret
        exact ⟨rfl, n, rfl⟩
end Go.Proofs.Ytbepaimbbclejaa
/- Are channels the same? -/
namespace Go.Proofs.Ytbepaimbbclejaa
open Go.RowKit

/-- A channel, as it is told. -/
structure Cv where
  n : Int
  s : Int
  g : Bool
  i : List (Int × Int)
/-- A row of channels that can be read. -/
def CvR (w : World) (v : Value) (L : List Cv) : Prop :=
  ∃ a c, v = .slice a L.length c ∧ (L ≠ [] → ∃ g o, a = some ⟨g, o, none⟩ ∧ (∀ (k : Nat) x, L[k]? = some x → w.cell? ⟨g, o + k * 4, none⟩ = some (.int .i64 x.n) ∧ w.cell? ⟨g, o + k * 4 + 1, none⟩ = some (.int .i64 x.s) ∧ w.cell? ⟨g, o + k * 4 + 2, none⟩ = some (.bool x.g) ∧ ∃ u, w.cell? ⟨g, o + k * 4 + 3, none⟩ = some u ∧ ItR w u x.i))
theorem CvR.keep {w w' : World} {v : Value} {L : List Cv} (h : CvR w v L) (hb : Below w.heap.size w w') : CvR w' v L := by
  obtain ⟨a, c, h1, h2⟩ := h
  refine ⟨a, c, h1, fun hn => ?_⟩
  obtain ⟨g, o, h3, h4⟩ := h2 hn
  refine ⟨g, o, h3, fun k x hx => ?_⟩
  obtain ⟨e1, e2, e3, u, e4, e5⟩ := h4 k x hx
  exact ⟨bsome hb e1, bsome hb e2, bsome hb e3, u, bsome hb e4, e5.keep hb⟩
set_option maxRecDepth 100000
set_option maxHeartbeats 2000000
theorem sameChans_any (l : List Cv) (v1 v2 : Value) (w : World) (hn : l.length ≤ 1000000) (hi : ∀ x ∈ l, x.i.length ≤ 1000000) (h1 : CvR w v1 l) (h2 : CvR w v2 l) :
    Calls Try.prog 10 #[v1, v2] w fun e w' => e = .returned (.bool true) ∧ Below w.heap.size w w' := by
  obtain ⟨a1, c1, rfl, h1⟩ := h1
  obtain ⟨a2, c2, rfl, h2⟩ := h2
  by_cases h0 : l = []
  · subst h0
    go_enter Try.func10, Try.ntmps10
    go_wp2
    go_loop [5] (fun i => i = .int .i64 0) (fun i => 0)
    case atStart => rfl
    case round =>
      obtain rfl := hrel
      go_wp2
      go_ret
      exact ⟨rfl, Below.refl _ _⟩
  · obtain ⟨g1, o1, rfl, q1⟩ := h1 h0
    obtain ⟨g2, o2, rfl, q2⟩ := h2 h0
    have H1 := hide q1
    have H2 := hide q2
    have HI := hide hi
    clear h1 h2 h0 q1 q2 hi
    go_enter Try.func10, Try.ntmps10
    go_wp2
    go_loopw [5] (fun i wr => ∃ k : Nat, k ≤ l.length ∧ i = .int .i64 k ∧ ∃ n, wr = w.drewN n) (fun i _ => l.length - (intOf i).toNat)
    case atStart => exact ⟨0, Nat.zero_le _, rfl, 0, rfl⟩
    case round =>
      obtain ⟨k, hk, rfl, n, rfl⟩ := hrel
      by_cases hlt : k < l.length
      · obtain ⟨x, hx⟩ : ∃ x, l[k]? = some x := ⟨_, List.getElem?_eq_getElem hlt⟩
        obtain ⟨g1a, g1b, g1c, u1, g1d, r1⟩ := H1.out k x hx
        obtain ⟨g2a, g2b, g2c, u2, g2d, r2⟩ := H2.out k x hx
        have CS : Hid (∀ m, Calls Try.prog 33 #[u1, u2] (w.drewN (n + m)) fun e w'' => e = .returned (.bool true) ∧ ∃ n1, w'' = w.drewN (n + n1)) := hide (fun m => (sameItems_any x.i u1 u2 (w.drewN (n + m)) (HI.out x (List.mem_of_getElem? hx)) (r1.keep (below_drewN (Below.refl _ _) (n + m))) (r2.keep (below_drewN (Below.refl _ _) (n + m)))).mono (fun e w'' h => by
          obtain ⟨h1, k', rfl⟩ := h
          exact ⟨h1, m + k', by show (w.drewN (n + m)).drewN k' = _; unfold World.drewN; simp only [Nat.add_assoc]⟩))
        obtain ⟨b1, s1, e1, -⟩ := r1
        obtain ⟨b2, s2, e2, -⟩ := r2
        subst e1 e2
        have dn : (x.n != x.n) = false := by simp
        have ds : (x.s != x.s) = false := by simp
        have dg : (x.g != x.g) = false := by simp
        clear hx
        go_wp2
        go_quiet ((go_at_call 33; exact CS.out _))
        go_wp2
        go_roundw
        case rel => exact ⟨k + 1, by omega, by go_num, _, rfl⟩
        case measure => simp [intOf]; omega
      · go_wp2
        go_ret
        exact ⟨rfl, below_drewN (Below.refl _ _) _⟩
end Go.Proofs.Ytbepaimbbclejaa

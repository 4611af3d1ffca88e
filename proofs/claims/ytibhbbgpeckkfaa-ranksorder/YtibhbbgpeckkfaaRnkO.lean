import Derived.Test.YtibhbbgpeckkfaaRnkF
import Derived.Lib.SlicesCompact
import Derived.Lib.SliceRun
import Derived.ChangeKeysEq
/- Rows of edges, two cells each; the library's Compact over one that the caller owns: its two loops walked. -/
namespace Go.Proofs.Ytibhbbgpeckkfaa
open Go.RowKit

theorem Try.infoE : (Try.prog.info? 30).map (fun i => (i.zero, i.size, i.bytes)) = some (some (.agg #[.int .i64 0, .int .i64 0]), 2, 16) := by kernel_rfl
/-- The cells of a row of faults. -/
def fcells : List (Int × Int) → List Value
  | [] => []
  | x :: r => .int .i64 x.1 :: .int .i64 x.2 :: fcells r
theorem fcells_len (l : List (Int × Int)) : (fcells l).length = l.length * 2 := by
  induction l with
  | nil => rfl
  | cons x r ih => simp only [fcells, List.length_cons, ih]; omega
theorem fcells_app (a b : List (Int × Int)) : fcells (a ++ b) = fcells a ++ fcells b := by
  induction a with
  | nil => rfl
  | cons x r ih => simp [fcells, ih]
theorem fcells_at (l : List (Int × Int)) (i : Nat) (h : i < l.length) : (fcells l)[i * 2]? = some (.int .i64 (l[i]?.getD (0, 0)).1) ∧ (fcells l)[i * 2 + 1]? = some (.int .i64 (l[i]?.getD (0, 0)).2) := by
  induction l generalizing i with
  | nil => simp at h
  | cons x r ih =>
    match i with
    | 0 => simp [fcells]
    | i + 1 =>
      have := ih i (by simpa using h)
      rw [show (i + 1) * 2 = i * 2 + 1 + 1 from by omega]
      simpa [fcells] using this
theorem fcells_one (l : List (Int × Int)) : ∀ u ∈ fcells l, u.oneCell' = true := by
  induction l with
  | nil => simp [fcells]
  | cons x r ih =>
    intro u hu
    simp only [fcells, List.mem_cons] at hu
    rcases hu with rfl | rfl | hu
    · rfl
    · rfl
    · exact ih u hu

/-- A row of faults lies at a place. -/
def FAt (w : World) (b off : Nat) (l : List (Int × Int)) : Prop :=
  ∀ i, i < l.length → w.cell? ⟨b, off + i * 2, none⟩ = some (.int .i64 (l[i]?.getD (0, 0)).1) ∧ w.cell? ⟨b, off + i * 2 + 1, none⟩ = some (.int .i64 (l[i]?.getD (0, 0)).2)

theorem FAt.below {w w' : World} {b off : Nat} {l : List (Int × Int)} (h : FAt w b off l) {B : Nat} (hb : Below B w w') (hlt : b < B) : FAt w' b off l :=
  fun i hi => ⟨(hb.cell (p := ⟨b, off + i * 2, none⟩) hlt).trans (h i hi).1, (hb.cell (p := ⟨b, off + i * 2 + 1, none⟩) hlt).trans (h i hi).2⟩

theorem add_plain' (g j : Nat) : (⟨g, 0, none⟩ : Addr).add j = ⟨g, j, none⟩ := by unfold Addr.add; split <;> simp_all

/-- What an owned row of faults gives. -/
theorem own_fat {w : World} {B : Nat} {v : Value} {l : List (Int × Int)} (h : w.ownsRow B 30 2 v l.length (fcells l)) (hp : 0 < l.length) :
    ∃ g cap, v = .slice (some ⟨g, 0, none⟩) l.length cap ∧ B ≤ g ∧ g < w.heap.size ∧ l.length ≤ cap ∧ cap ≤ maxLen ∧ FAt w g 0 l := by
  rcases h.2 with ⟨_, h0⟩ | ⟨g, cap, cur, hv, hb, hg, hnc, hcm, _, _⟩
  · omega
  · refine ⟨g, cap, hv, hb, (h.lt g (by rw [hv]; rfl)).2, hnc, hcm, fun i hi => ?_⟩
    have h1 := h.cells (g := g) (by rw [hv]; rfl) (i * 2) _ (fcells_at l i hi).1
    have h2 := h.cells (g := g) (by rw [hv]; rfl) (i * 2 + 1) _ (fcells_at l i hi).2
    rw [add_plain'] at h1 h2
    simpa using ⟨h1, h2⟩

theorem cells_two_new (w : World) (n : Nat) (hn : n = w.heap.size) (x y : Value) (t : TypeId) : ∀ (j : Nat) (u : Value), [x, y][j]? = some u → (w.alloc (.cells #[x, y] t)).cell? ((⟨n, 0, none⟩ : Addr).add j) = some u := by
  intro j u hj
  subst hn
  rw [add_plain']
  match j, hj with
  | 0, hj => simp at hj; subst hj; simp [go_sem]
  | 1, hj => simp at hj; subst hj; simp [go_sem]

theorem heap_setCell_at {w : World} {g o : Nat} {cur : Array Value} {t : TypeId} {fr : Nat × Nat} (h : w.heap[g]? = some (.cells cur t fr)) (v : Value) : (w.setCell ⟨g, o, none⟩ v).heap[g]? = some (.cells (cur.setIfInBounds o v) t fr) := by
  simp only [World.setCell, Array.getElem?_modify, if_true, h]
  rfl

/-- The block of a row of faults: of so many places, none frozen. -/
def Shape (w : World) (g cap : Nat) : Prop := ∃ cur : Array Value, w.heap[g]? = some (.cells cur 30 (0, 0)) ∧ cur.size = cap * 2

theorem Shape.setCell {w : World} {g cap : Nat} (h : Shape w g cap) (o : Nat) (v : Value) : Shape (w.setCell ⟨g, o, none⟩ v) g cap := by
  obtain ⟨cur, h1, h2⟩ := h
  exact ⟨_, heap_setCell_at h1 v, by simpa using h2⟩
theorem Shape.setCells {g cap : Nat} : ∀ (vs : List Value) (o : Nat) (w : World), Shape w g cap → Shape (w.setCells g o vs) g cap
  | [], _, _, h => h
  | v :: r, o, _, h => Shape.setCells r (o + 1) _ (h.setCell o v)
theorem Shape.cell {w : World} {g cap : Nat} (h : Shape w g cap) (j : Nat) (hj : j < cap * 2) : (∃ u, w.cell? ⟨g, j, none⟩ = some u) ∧ w.frozen? ⟨g, j, none⟩ = false := by
  obtain ⟨cur, h1, h2⟩ := h
  refine ⟨⟨cur[j]'(by omega), ?_⟩, ?_⟩
  · rw [cell_of_row w g j cur 30 (0, 0) h1]
    exact Array.getElem?_eq_getElem (by omega)
  · simp [World.frozen?, h1]
theorem Below.setCells {B g : Nat} {a : World} (hg : B ≤ g) : ∀ (vs : List Value) (o : Nat) (w : World), Below B a w → Below B a (w.setCells g o vs)
  | [], _, _, h => h
  | v :: r, o, _, h => Below.setCells hg r (o + 1) _ (h.setCell (p := ⟨g, o, none⟩) hg v)

theorem Kx.setCells {g : Nat} {a : World} : ∀ (vs : List Value) (o : Nat) (w : World), Kx (fun b => b ≠ g) a w → Kx (fun b => b ≠ g) a (w.setCells g o vs)
  | [], _, _, h => h
  | v :: r, o, _, h => Kx.setCells r (o + 1) _ (h.set (p := ⟨g, o, none⟩) (.inr (fun e => e rfl)) v)
/-- An owned row, out of its block and its cells. -/
theorem own_of_cells {w : World} {B g cap : Nat} {F : List (Int × Int)} (hs : Shape w g cap) (hB : B ≤ g) (hn : F.length ≤ cap) (hm : cap ≤ maxLen) (hF : FAt w g 0 F) :
    w.ownsRow B 30 2 (.slice (some ⟨g, 0, none⟩) F.length cap) F.length (fcells F) := by
  obtain ⟨cur, h1, h2⟩ := hs
  refine ⟨fcells_len F, .inr ⟨g, cap, cur, rfl, hB, h1, hn, hm, h2, ?_⟩⟩
  have hc := fcells_len F
  apply List.ext_getElem?
  intro j
  by_cases hj : j < F.length * 2
  · have hrow := fun o => cell_of_row w g o cur 30 (0, 0) h1
    rw [List.getElem?_take, if_pos hj, Array.getElem?_toList, ← hrow j]
    obtain ⟨a, b⟩ := hF (j / 2) (by omega)
    obtain ⟨c, d⟩ := fcells_at F (j / 2) (by omega)
    rcases Nat.mod_two_eq_zero_or_one j with e | e
    · rw [show (0 : Nat) + j / 2 * 2 = j from by omega] at a
      rw [show j / 2 * 2 = j from by omega] at c
      rw [a, c]
    · rw [show (0 : Nat) + j / 2 * 2 + 1 = j from by omega] at b
      rw [show j / 2 * 2 + 1 = j from by omega] at d
      rw [b, d]
  · rw [List.getElem?_eq_none (by simp; omega), List.getElem?_eq_none (by rw [hc]; omega)]

theorem own_shape {w : World} {B : Nat} {v : Value} {F : List (Int × Int)} (h : w.ownsRow B 30 2 v F.length (fcells F)) (hp : 0 < F.length) :
    ∃ g cap, v = .slice (some ⟨g, 0, none⟩) F.length cap ∧ B ≤ g ∧ g < w.heap.size ∧ F.length ≤ cap ∧ cap ≤ maxLen ∧ Shape w g cap ∧ FAt w g 0 F := by
  rcases h.2 with ⟨_, h0⟩ | ⟨g, cap, cur, hv, hb, hg, hnc, hcm, hsz, _⟩
  · omega
  · obtain ⟨g', cap', hv', hb', hlt, hn', hc', hF⟩ := own_fat h hp
    rw [hv] at hv'
    simp only [Value.slice.injEq, Option.some.injEq, Addr.mk.injEq] at hv'
    obtain ⟨⟨rfl, _⟩, _, rfl⟩ := hv'
    exact ⟨g, cap, hv, hb, hlt, hnc, hcm, ⟨cur, hg, hsz⟩, hF⟩

theorem fat_set {w : World} {g cap : Nat} {F : List (Int × Int)} (hs : Shape w g cap) (hF : FAt w g 0 F) (hn : F.length ≤ cap) (i : Nat) (hi : i < F.length) (x : Int × Int) :
    FAt ((w.setCell ⟨g, i * 2, none⟩ (.int .i64 x.1)).setCell ⟨g, i * 2 + 1, none⟩ (.int .i64 x.2)) g 0 (F.set i x) := by
  intro j hj
  have hj' : j < F.length := by simpa using hj
  obtain ⟨a, b⟩ := hF j hj'
  obtain ⟨⟨u0, c0⟩, _⟩ := hs.cell (i * 2) (by omega)
  obtain ⟨⟨u1, c1⟩, _⟩ := (hs.setCell (i * 2) (.int .i64 x.1)).cell (i * 2 + 1) (by omega)
  simp only [Nat.zero_add] at a b ⊢
  by_cases e : j = i
  · subst e
    have ex : (F.set j x)[j]?.getD (0, 0) = x := by simp [hj']
    rw [ex]
    exact ⟨by rw [World.cell?_setCell_other _ _ _ _ (by simp), World.cell?_setCell_same _ _ _ c0], World.cell?_setCell_same _ _ _ c1⟩
  · have ex : (F.set i x)[j]?.getD (0, 0) = F[j]?.getD (0, 0) := by simp [Ne.symm e]
    rw [ex]
    exact ⟨by rw [World.cell?_setCell_other _ _ _ _ (by simp <;> omega), World.cell?_setCell_other _ _ _ _ (by simp <;> omega)]; exact a, by rw [World.cell?_setCell_other _ _ _ _ (by simp <;> omega), World.cell?_setCell_other _ _ _ _ (by simp <;> omega)]; exact b⟩

theorem arr_get (F : List (Int × Int)) (i : Nat) (hi : i < F.length) : F.toArray[i]! = F[i]?.getD (0, 0) := by
  rw [getElem!_pos F.toArray i (by simpa using hi), List.getElem?_eq_getElem hi]
  rfl

theorem zeroE (w : World) : (zeroValue 30).run Try.prog w = .ok (.agg #[.int .i64 0, .int .i64 0]) w := by kernel_rfl

/-- The zeroes that clear lays. -/
theorem run_clear_f (w : World) (ty : TypeId) (b o n c : Nat) (hn : 0 < n)
    (hc : ∀ j, j < n * 2 → (w.cell? ⟨b, o + j, none⟩).isSome = true) (hf : ∀ j, j < n * 2 → w.frozen? ⟨b, o + j, none⟩ = false) :
    ∃ vs : List Value, vs.length = n * 2 ∧ (Builtin.clear_ #[22] ty #[.slice (some ⟨b, o, none⟩) n c]).run Try.prog w = .ok (.tuple #[]) (w.setCells b o vs) := by
  have hl : (Builtin.zeroCells #[Value.int .i64 0, .int .i64 0] n).toList.length = n * 2 := by simp [Builtin.zeroCells]
  have h1 : ∀ v ∈ (Builtin.zeroCells #[Value.int .i64 0, .int .i64 0] n).toList, v.oneCell' = true := by
    intro v hv
    simp [Builtin.zeroCells] at hv
    obtain ⟨a, _, ha⟩ := hv
    rcases Nat.mod_two_eq_zero_or_one a with e | e <;> rw [e] at ha <;> simp at ha <;> subst ha <;> rfl
  have hst := run_storeCells_cells (P := Try.prog) b o (Builtin.zeroCells #[Value.int .i64 0, .int .i64 0] n).toList 0 w (by rw [hl]; simpa using hc) (by rw [hl]; simpa using hf) h1
  simp only [Nat.add_zero] at hst
  refine ⟨_, hl, ?_⟩
  obtain ⟨m, rfl⟩ : ∃ m, n = m + 1 := ⟨n - 1, by omega⟩
  simp [Builtin.clear_, run_underlying Try.underlying22, Value.cells, hst]

/-- Two edges, asked whether they are one. -/
theorem eqE (x y : Int × Int) (w : World) : (Op.equalIn 10000 30 (.agg #[.int .i64 x.1, .int .i64 x.2]) (.agg #[.int .i64 y.1, .int .i64 y.2])).run Try.prog w = .ok (decide (x = y)) w := by
  obtain ⟨i0, hi, hz0, hz1, hz2⟩ := info_parts Try.info3
  have hu : Try.prog.underlying 3 = some (.int .i64) := Try.underlying3
  have hc : Try.prog.cellsOf 3 = 1 := by kernel_rfl
  rw [run_equalIn_array w 9999 _ _ Try.underlying30 hi]
  obtain ⟨a, b⟩ := x
  obtain ⟨c, d⟩ := y
  by_cases h1 : a = c
  · by_cases h2 : b = d
    · simp [Op.eqItems, List.range, List.range.loop, hc, run_equalIn_int, hu, part, go_sem, h1, h2]
    · simp [Op.eqItems, List.range, List.range.loop, hc, run_equalIn_int, hu, part, go_sem, h1, h2]
  · simp [Op.eqItems, List.range, List.range.loop, hc, run_equalIn_int, hu, part, go_sem, h1]
theorem shape_drewN {w : World} {g cap : Nat} (h : Shape w g cap) (n : Nat) : Shape (w.drewN n) g cap := by
  obtain ⟨cur, h1, h2⟩ := h
  exact ⟨cur, by simpa using h1, h2⟩
theorem fat_drewN {w : World} {b off : Nat} {l : List (Int × Int)} (h : FAt w b off l) (n : Nat) : FAt (w.drewN n) b off l := by
  intro i hi
  simpa using h i hi

set_option maxRecDepth 100000 in
set_option maxHeartbeats 1000000 in
theorem compact_some (g cap : Nat) (F : List (Int × Int)) (w : World) (hl : F.length ≤ 20000) (h2 : 2 ≤ F.length) (hn : F.length ≤ cap) (hS : Shape w g cap) (hF : FAt w g 0 F) :
    Calls Try.prog 26 #[.slice (some ⟨g, 0, none⟩) F.length cap] w fun e w' => e = .returned (.slice (some ⟨g, 0, none⟩) (Lib.compact F).length cap) ∧ Shape w' g cap ∧ FAt w' g 0 (Lib.compact F) ∧ Kx (fun b => b ≠ g) w w' := by
  have d0 : decide ((F.length : Int) < 2) = false := by simp <;> omega
  go_enter Try.func26, Try.ntmps26
  go_wp2
  go_loopw [3] (fun s3 wr => ∃ k q : Nat, 1 ≤ k ∧ k ≤ F.length ∧ s3 = .int .i64 k ∧ wr = w.drewN q ∧ ∀ j, j < k → Lib.keeps F.toArray j = true) (fun s3 _ => F.length - (intOf s3).toNat)
  case atStart => exact ⟨1, 0, Nat.le_refl _, by omega, rfl, rfl, Lib.keeps_lt_one _⟩
  case round =>
    obtain ⟨k, q, hk1, hk, rfl, rfl, hall⟩ := hrel
    have HA := hide hall
    clear hall
    by_cases hlt : k < F.length
    · obtain ⟨a0, a1⟩ := hF k hlt
      obtain ⟨b0, b1⟩ := hF (k - 1) (by omega)
      generalize hx : F[k]?.getD (0, 0) = x at a0 a1
      generalize hy : F[k - 1]?.getD (0, 0) = y at b0 b1
      simp only [Nat.zero_add] at a0 a1 b0 b1
      have HX := hide hx
      have HY := hide hy
      have HF := hide hF
      clear hx hy hF
      by_cases hdup : x = y
      · subst hdup
        have heq : ∀ W, (Op.equalIn 10000 30 (.agg #[.int .i64 x.1, .int .i64 x.2]) (.agg #[.int .i64 x.1, .int .i64 x.2])).run Try.prog W = .ok true W := fun W => by rw [eqE]; simp
        go_wp2
        go_quiet (fail)
        go_wp2
        clear a0 a1 b0 b1
        go_loopw [3, 5] (fun s3 s5 wr => ∃ (kk k2 : Nat) (dk : List (Int × Int)), s3 = .int .i64 kk ∧ s5 = .int .i64 k2 ∧ 1 ≤ k2 ∧ k + k2 ≤ F.length ∧ dk.length = F.length ∧ Shape wr g cap ∧ FAt wr g 0 dk ∧ Kx (fun b => b ≠ g) w wr ∧ Lib.CompInv F.toArray (k + k2) kk dk.toArray) (fun _ s5 _ => F.length - (intOf s5).toNat)
        case atStart => exact ⟨k, 1, F, rfl, rfl, Nat.le_refl _, by omega, rfl, shape_drewN hS _, fat_drewN HF.out _, (Kx.refl _ _).drewN _, Lib.CompInv.start HA.out (Lib.keeps_neg (by omega) (by rw [arr_get F k hlt, arr_get F (k - 1) (by omega), HX.out, HY.out]))⟩
        case round =>
          obtain ⟨kk, k2, dk, rfl, rfl, h1, hle, hdl, hSr, hFr, hBr, hI⟩ := hrel
          have hkk := hI.lt
          have HI := hide hI
          clear hI
          by_cases hlt2 : k + k2 < F.length
          · obtain ⟨m0, m1⟩ := hFr (k + k2) (by omega)
            obtain ⟨p0, p1⟩ := hFr (k + k2 - 1) (by omega)
            have em : dk[k + k2]?.getD (0, 0) = F[k + k2]?.getD (0, 0) := by rw [← arr_get dk (k + k2) (by omega), ← arr_get F (k + k2) hlt2]; exact HI.out.high (k + k2) (by omega)
            have ep : dk[k + k2 - 1]?.getD (0, 0) = F[k + k2 - 1]?.getD (0, 0) := by rw [← arr_get dk (k + k2 - 1) (by omega), ← arr_get F (k + k2 - 1) (by omega)]; exact HI.out.high (k + k2 - 1) (by omega)
            rw [em, show 0 + (k + k2) * 2 = k * 2 + k2 * 2 from by omega] at m0 m1
            rw [ep, show 0 + (k + k2 - 1) * 2 = k * 2 + (k2 - 1) * 2 from by omega] at p0 p1
            clear em ep
            generalize hu : F[k + k2]?.getD (0, 0) = u at m0 m1
            generalize hv : F[k + k2 - 1]?.getD (0, 0) = v at p0 p1
            have HUq := hide hu
            have HVq := hide hv
            clear hu hv
            obtain ⟨⟨o0, s0⟩, f0⟩ := hSr.cell (kk * 2) (by omega)
            obtain ⟨⟨o1, s1⟩, f1⟩ := hSr.cell (kk * 2 + 1) (by omega)
            have HFr := hide hFr
            have HSr := hide hSr
            clear hFr hSr
            by_cases huv : u = v
            · subst huv
              have hneq : ∀ W, (Op.equalIn 10000 30 (.agg #[.int .i64 u.1, .int .i64 u.2]) (.agg #[.int .i64 u.1, .int .i64 u.2])).run Try.prog W = .ok true W := fun W => by rw [eqE]; simp
              go_wp2
              go_quiet (fail)
              go_wp2
              go_roundw
              case rel => exact ⟨kk, k2 + 1, dk, rfl, by go_num, by omega, by omega, hdl, shape_drewN HSr.out _, fat_drewN HFr.out _, hBr.drewN _, HI.out.skip (Lib.keeps_neg (by omega) (by rw [arr_get F (k + k2) hlt2, arr_get F (k + k2 - 1) (by omega), HUq.out, HVq.out]))⟩
              case measure => simp [intOf]; omega
            · have hneq : ∀ W, (Op.equalIn 10000 30 (.agg #[.int .i64 u.1, .int .i64 u.2]) (.agg #[.int .i64 v.1, .int .i64 v.2])).run Try.prog W = .ok false W := fun W => by rw [eqE]; simp [huv]
              go_wp2
              go_quiet (fail)
              go_wp2
              have hK := HI.out.keep (by simpa using hlt2) (Lib.keeps_pos (by rw [arr_get F (k + k2) hlt2, arr_get F (k + k2 - 1) (by omega), HUq.out, HVq.out]; exact huv))
              rw [arr_get F (k + k2) hlt2, HUq.out, List.setIfInBounds_toArray] at hK
              have hSn := shape_drewN HSr.out nq
              have hFn := fat_drewN HFr.out nq
              go_roundw
              case rel => exact ⟨kk + 1, k2 + 1, dk.set kk u, by go_num, by go_num, by omega, by omega, by simpa using hdl, (hSn.setCell _ _).setCell _ _, fat_set hSn hFn (by omega) kk (by omega) u, ((hBr.drewN _).set (p := ⟨g, kk * 2, none⟩) (.inr (fun e => e rfl)) _).set (p := ⟨g, kk * 2 + 1, none⟩) (.inr (fun e => e rfl)) _, hK⟩
              case measure => simp [intOf]; omega
          · have hend : k + k2 = F.length := by omega
            have hI := HI.out
            rw [hend] at hI
            have hkl : (Lib.compact F).length = kk := by have := hI.len; simpa [Lib.compact] using this
            obtain ⟨vs, hvl, hcl⟩ := run_clear_f wr 0 g (kk * 2) (F.length - kk) (cap - kk) (by omega) (fun j hj => by obtain ⟨⟨u, hu⟩, _⟩ := hSr.cell (kk * 2 + j) (by omega); rw [hu]; rfl) (fun j hj => (hSr.cell (kk * 2 + j) (by omega)).2)
            have HFr := hide hFr
            have HSr := hide hSr
            have HKl := hide hkl
            have HII := hide hI
            clear hFr hSr hkl hI hend
            go_wp2
            go_ret
            rw [HKl.out]
            refine ⟨rfl, Shape.setCells vs _ _ HSr.out, ?_, Kx.setCells vs _ _ hBr⟩
            intro i hi
            rw [HKl.out] at hi
            have hlow := HII.out.low i hi
            have e1 : (Lib.compact F)[i]?.getD (0, 0) = dk[i]?.getD (0, 0) := by
              have e2 : (Lib.compact F)[i]? = some dk.toArray[i]! := by rw [← hlow]; rfl
              rw [e2, arr_get dk i (by omega)]
              rfl
            obtain ⟨x0, x1⟩ := HFr.out i (by omega)
            rw [e1, World.cell?_setCells_out g vs _ _ _ (fun _ _ => .inl (by show 0 + i * 2 < kk * 2; omega)), World.cell?_setCells_out g vs _ _ _ (fun _ _ => .inl (by show 0 + i * 2 + 1 < kk * 2; omega))]
            exact ⟨x0, x1⟩
      · have heq : ∀ W, (Op.equalIn 10000 30 (.agg #[.int .i64 x.1, .int .i64 x.2]) (.agg #[.int .i64 y.1, .int .i64 y.2])).run Try.prog W = .ok false W := fun W => by rw [eqE]; simp [hdup]
        go_wp2
        go_quiet (fail)
        go_wp2
        have hkeep : ∀ j, j < k + 1 → Lib.keeps F.toArray j = true := by
          intro j hj
          by_cases e : j = k
          · subst e
            exact Lib.keeps_pos (by rw [arr_get F j hlt, arr_get F (j - 1) (by omega), HX.out, HY.out]; exact hdup)
          · exact HA.out j (by omega)
        go_roundw
        case rel => exact ⟨k + 1, _, by omega, by omega, by go_num, rfl, hkeep⟩
        case measure => simp [intOf]; omega
    · obtain rfl : k = F.length := by omega
      have hfin : Lib.compact F = F := Lib.compact_all F HA.out
      have HFin := hide hfin
      clear hfin
      go_wp2
      go_ret
      rw [HFin.out]
      exact ⟨rfl, shape_drewN hS _, fat_drewN hF _, (Kx.refl _ _).drewN _⟩

theorem compact_short (F : List (Int × Int)) (h : F.length < 2) : Lib.compact F = F :=
  Lib.compact_all F (fun j hj => Lib.keeps_lt_one _ j (by omega))

set_option maxHeartbeats 400000 in
theorem compact_few (a0 : Option Addr) (n cap : Nat) (w : World) (h : n < 2) :
    Calls Try.prog 26 #[.slice a0 n cap] w fun e w' => e = .returned (.slice a0 n cap) ∧ w' = w := by
  go_enter Try.func26, Try.ntmps26
  go_wp2
  go_ret
  exact ⟨rfl, rfl⟩

end Go.Proofs.Ytibhbbgpeckkfaa

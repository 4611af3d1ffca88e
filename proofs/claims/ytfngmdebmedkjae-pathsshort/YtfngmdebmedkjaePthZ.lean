import Derived.Test.YtfngmdebmedkjaePthM
import Derived.Test.YtfngmdebmedkjaePthF
import Derived.Test.YtfngmdebmedkjaePthS
/- Ways and walks, plain: what the law of the shortest way asks. -/
namespace Go.Proofs.Ytfngmdebmedkjae
open Go.RowKit

theorem way_last {nx : Nat → List Nat} {a v : Nat} {l : List Nat} (h : Pa.Way nx a v l) : l[l.length - 1]? = some v := by
  cases h with
  | one => rfl
  | snoc hw _ =>
    rw [List.length_append]
    simp
theorem way_first {nx : Nat → List Nat} {a v : Nat} {l : List Nat} (h : Pa.Way nx a v l) : l[0]? = some a := by
  induction h with
  | one => rfl
  | snoc hw _ ih =>
    rw [List.getElem?_append_left hw.pos]
    exact ih
theorem up_some {l : List Nat} {k : Nat} {x : Int} (h : (up l)[k]? = some x) : ∃ v : Nat, l[k]? = some v ∧ x = (v : Int) := by
  unfold up at h
  rw [List.getElem?_map] at h
  cases hv : l[k]? with
  | none => rw [hv] at h; cases h
  | some v => rw [hv] at h; exact ⟨v, rfl, (Option.some.inj h).symm⟩
theorem way_isW {p : Pa.Pr} {a v : Nat} {l : List Nat} (h : Pa.Way (nxp p) a v l) (ha : a < p.length) : isW p (up l) := by
  refine ⟨⟨(a : Int), up_get (way_first h), Pa.isI_iff.2 ⟨by omega, by omega⟩⟩, ?_⟩
  rw [up_len]
  induction h with
  | one => intro j x y hj; exact absurd hj (by simp)
  | @snoc u w l hw hv ih =>
    intro j x y hj hx hy
    obtain ⟨x', hx', rfl⟩ := up_some hx
    obtain ⟨y', hy', rfl⟩ := up_some hy
    have hp := hw.pos
    by_cases e : j + 1 < l.length
    · rw [List.getElem?_append_left (by omega)] at hx' hy'
      exact ih j _ _ (by omega) (up_get hx') (up_get hy')
    · have hj' : j = l.length - 1 := by rw [List.length_append] at hj; simp at hj; omega
      subst hj'
      rw [List.getElem?_append_left (by omega), way_last hw] at hx'
      rw [show l.length - 1 + 1 = l.length by omega, List.getElem?_append_right (Nat.le_refl _)] at hy'
      simp at hy'
      cases hx'
      rw [← hy']
      exact Pa.mem_on.1 hv
/-- Nowhere greater where two differ first. -/
def NA (a b : List Int) : Prop := ∀ (k : Nat) x y, a[k]? = some x → b[k]? = some y → (∀ j, j < k → a[j]? = b[j]?) → x ≤ y
theorem na_fl : ∀ (a b : List Nat), Pa.FL a b → NA (up a) (up b)
  | [], _, h => by simp [Pa.FL] at h
  | _ :: _, [], h => by simp [Pa.FL] at h
  | x :: a, y :: b, h => by
    simp only [Pa.FL] at h
    intro k u v hu hv hj
    cases k with
    | zero =>
      simp [up] at hu hv
      rcases h with h | ⟨h, -⟩ <;> omega
    | succ k =>
      rcases h with h | ⟨-, h⟩
      · have := hj 0 (by omega)
        simp [up] at this
        omega
      · refine na_fl a b h k u v (by simpa [up] using hu) (by simpa [up] using hv) (fun j hjk => ?_)
        have := hj (j + 1) (by omega)
        simpa [up] using this
theorem na_le {a b : List Nat} (h : Pa.Le a b) (hl : a.length = b.length) : NA (up a) (up b) := by
  rcases h with rfl | h | ⟨-, h⟩
  · intro k x y hx hy _
    rw [hx] at hy
    cases hy
    exact Int.le_refl _
  · omega
  · exact na_fl a b h
/-- What a list of those that were found tells of the next one. -/
theorem rcs_more {ah : List Int} (i : Nat) : ∀ m, ∃ r, rcs ah (i + m) = rcs ah i ++ r ∧ ∀ v ∈ r, i ≤ v
  | 0 => ⟨[], by simp, by simp⟩
  | m + 1 => by
    obtain ⟨r, h1, h2⟩ := rcs_more (ah := ah) i m
    have e : i + (m + 1) = (i + m) + 1 := by omega
    rw [e]
    cases hx : ah[i + m]? with
    | none =>
      refine ⟨r ++ [i + m], ?_, fun v hv => ?_⟩
      · unfold rcs at h1 ⊢
        rw [List.range_succ, List.filter_append, h1]
        simp [hx]
      · rcases List.mem_append.1 hv with hv | hv
        · exact h2 v hv
        · simp at hv; omega
    | some x =>
      by_cases hx1 : x = -1
      · subst hx1
        exact ⟨r, by rw [rcs_no hx, h1], h2⟩
      · refine ⟨r ++ [i + m], by rw [rcs_yes hx hx1, h1, List.append_assoc], fun v hv => ?_⟩
        rcases List.mem_append.1 hv with hv | hv
        · exact h2 v hv
        · simp at hv; omega
theorem rcs_is {ah : List Int} {i n : Nat} {x : Int} (hi : i < n) (hx : ah[i]? = some x) : (x ≠ -1 → (rcs ah n)[(rcs ah i).length]? = some i) ∧ (x = -1 → ∀ v, (rcs ah n)[(rcs ah i).length]? = some v → v ≠ i) := by
  obtain ⟨r, h1, h2⟩ := rcs_more (ah := ah) (i + 1) (n - (i + 1))
  rw [show i + 1 + (n - (i + 1)) = n by omega] at h1
  constructor
  · intro hne
    rw [h1, rcs_yes hx hne, List.append_assoc, List.getElem?_append_right (Nat.le_refl _)]
    simp
  · intro he v hv e
    subst he
    rw [h1, rcs_no hx, List.getElem?_append_right (Nat.le_refl _)] at hv
    have := h2 v (List.mem_of_getElem? hv)
    omega
/-- Path tells of a way just where there is one. -/
theorem pth_pos {p : Pa.Pr} {ah : List Int} {i : Nat} {L : List Nat} {x : Int} (hs : SPR p 0 ah) (hi : i < p.length) (hx : ah[i]? = some x) (h : PTH p 0 (i : Int) L) : 0 < L.length ↔ x ≠ -1 := by
  obtain ⟨ln, g, hv⟩ := hs.2.2 0 rfl (by omega)
  rcases h with ⟨a, t, h1, h2, -, -, h5, -⟩ | ⟨h1, h2⟩
  · obtain rfl : a = 0 := by omega
    obtain rfl : t = i := by omega
    have hm := (hv.mem t hi).1 (hv.best (Pa.fw_way h5.1)).1
    rw [hx] at hm
    exact ⟨fun _ e => hm (by rw [e]), fun _ => h5.1.pos⟩
  · rw [h1]
    refine ⟨fun h => absurd h (by simp), fun hne => ?_⟩
    have hm := (hv.mem i hi).2 (by rw [hx]; simpa using hne)
    obtain ⟨j, hj⟩ := List.getElem?_of_mem hm
    exact absurd (Pa.way_fw (hv.way j i hj)) (h2 0 i rfl rfl (by omega) hi _)
theorem pth_way {p : Pa.Pr} {v : Nat} {l L : List Nat} (hw : Pa.Way (nxp p) 0 v l) (h0 : 0 < p.length) (h : PTH p 0 (v : Int) L) : Pa.Way (nxp p) 0 v L ∧ Pa.Le L l := by
  have hv : v < p.length := fw_end (Pa.way_fw hw) h0
  rcases h with ⟨a, t, h1, h2, -, -, h5, -⟩ | ⟨-, h2⟩
  · obtain rfl : a = 0 := by omega
    obtain rfl : t = v := by omega
    exact ⟨Pa.fw_way h5.1, h5.2 l (Pa.way_fw hw)⟩
  · exact absurd (Pa.way_fw hw) (h2 0 v rfl rfl h0 hv _)

set_option maxHeartbeats 1000000 in
theorem above_any (a b : List Int) (v1 v2 : Value) (w : World) (hn : a.length ≤ 1000000) (hm : b.length ≤ 1000000) (h1 : IR w v1 a) (h2 : IR w v2 b) (hna : NA a b) :
    Calls Try.prog 12 #[v1, v2] w fun e w' => e = .returned (.bool false) ∧ Below w.heap.size w w' := by
  obtain ⟨a1, c1, rfl, h1⟩ := h1
  obtain ⟨a2, c2, rfl, h2⟩ := h2
  have H1 := hide h1
  have H2 := hide h2
  have HN := hide hna
  clear h1 h2 hna
  go_enter Try.func12, Try.ntmps12
  go_wp2
  go_loopw [5] (fun i wr => ∃ k : Nat, k ≤ a.length ∧ i = .int .i64 k ∧ Hid (∀ j, j < k → a[j]? = b[j]?) ∧ ∃ n, wr = w.drewN n) (fun i _ => a.length - (intOf i).toNat)
  case atStart => exact ⟨0, Nat.zero_le _, rfl, hide (fun j hj => absurd hj (by omega)), 0, rfl⟩
  case round =>
    obtain ⟨k, hk, rfl, HE, n, rfl⟩ := hrel
    by_cases hlt : k < a.length
    · have d1 : decide ((k : Int) < (a.length : Int)) = true := by simp; omega
      by_cases hlt2 : k < b.length
      · have d2 : decide ((k : Int) < (b.length : Int)) = true := by simp; omega
        obtain ⟨x, hx⟩ : ∃ x, a[k]? = some x := ⟨_, List.getElem?_eq_getElem hlt⟩
        obtain ⟨y, hy⟩ : ∃ y, b[k]? = some y := ⟨_, List.getElem?_eq_getElem hlt2⟩
        obtain ⟨g1, o1, rfl, q1⟩ := H1.out (by rintro rfl; simp at hlt)
        obtain ⟨g2, o2, rfl, q2⟩ := H2.out (by rintro rfl; simp at hlt2)
        have z1 := q1 k x hx
        have z2 := q2 k y hy
        have hxy := HN.out k x y hx hy HE.out
        have HX := hide hx
        have HY := hide hy
        clear q1 q2 hx hy
        by_cases e : x = y
        · subst e
          have d3 : (x != x) = false := by simp
          go_wp2
          go_quiet (fail)
          go_wp2
          go_roundw
          case rel => exact ⟨k + 1, by omega, by go_num, hide (fun j hj => by
            by_cases e : j = k
            · subst e; rw [HX.out, HY.out]
            · exact HE.out j (by omega)), _, rfl⟩
          case measure => simp [intOf]; omega
        · have d3 : (x != y) = true := by simpa using e
          have d4 : decide (y < x) = false := by simp; omega
          go_wp2
          go_quiet (fail)
          go_wp2
          go_quiet (fail)
          go_wp2
          go_ret
          exact ⟨by simp; try omega, below_drewN (below_drewN (below_drewN (Below.refl _ _) _) _) _⟩
      · have d2 : decide ((k : Int) < (b.length : Int)) = false := by simp; omega
        go_wp2
        go_ret
        exact ⟨rfl, below_drewN (Below.refl _ _) _⟩
    · have d1 : decide ((k : Int) < (a.length : Int)) = false := by simp; omega
      go_wp2
      go_ret
      exact ⟨rfl, below_drewN (Below.refl _ _) _⟩
end Go.Proofs.Ytfngmdebmedkjae

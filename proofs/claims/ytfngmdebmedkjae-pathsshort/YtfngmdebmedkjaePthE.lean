import Derived.Test.YtfngmdebmedkjaePthD
/- Rows of numbers that are the same; what comes of an instruction, by the document's own reckoning, as a row. -/
namespace Go.Proofs.Ytfngmdebmedkjae
open Go.RowKit

set_option maxHeartbeats 1000000 in
theorem same_any (l : List Int) (v1 v2 : Value) (w : World) (hn : l.length ≤ 1000000) (h1 : IR w v1 l) (h2 : IR w v2 l) :
    Calls Try.prog 7 #[v1, v2] w fun e w' => e = .returned (.bool true) ∧ Below w.heap.size w w' := by
  obtain ⟨a1, c1, rfl, h1⟩ := h1
  obtain ⟨a2, c2, rfl, h2⟩ := h2
  by_cases h0 : l = []
  · subst h0
    go_enter Try.func7, Try.ntmps7
    go_wp2
    go_loop [5] (fun i => i = .int .i64 0) (fun i => 0)
    case atStart => rfl
    case round =>
      obtain rfl := hrel
      go_wp2
      go_ret
      exact ⟨rfl, Below.refl _ _⟩
  · obtain ⟨g1, o1, rfl, q1⟩ := h1 h0
    obtain ⟨g2, o2, rfl, q2⟩ := h2 h0
    have H1 := hide q1
    have H2 := hide q2
    clear h1 h2 h0 q1 q2
    go_enter Try.func7, Try.ntmps7
    go_wp2
    go_loopw [5] (fun i wr => ∃ k : Nat, k ≤ l.length ∧ i = .int .i64 k ∧ ∃ n, wr = w.drewN n) (fun i _ => l.length - (intOf i).toNat)
    case atStart => exact ⟨0, Nat.zero_le _, rfl, 0, rfl⟩
    case round =>
      obtain ⟨k, hk, rfl, n, rfl⟩ := hrel
      by_cases hlt : k < l.length
      · obtain ⟨x, hx⟩ : ∃ x, l[k]? = some x := ⟨_, List.getElem?_eq_getElem hlt⟩
        have g1c := H1.out k x hx
        have g2c := H2.out k x hx
        clear hx
        go_wp2
        go_quiet (fail)
        go_wp2
        go_roundw
        case rel => exact ⟨k + 1, by omega, by go_num, _, rfl⟩
        case measure => simp [intOf]; omega
      · go_wp2
        go_ret
        exact ⟨rfl, below_drewN (Below.refl _ _) _⟩

/-- What comes, up to some number. -/
def cm (p : Pa.Pr) (i : Int) (k : Nat) : List Nat := (List.range k).filter fun (v : Nat) => Pa.comes p i (v : Int)
theorem cm_len (p : Pa.Pr) (i : Int) (k : Nat) : (cm p i k).length ≤ k := by
  have := List.length_filter_le (fun (v : Nat) => Pa.comes p i (v : Int)) (List.range k)
  unfold cm
  simpa using this
theorem cm_yes {p : Pa.Pr} {i : Int} {k : Nat} (h : Pa.comes p i (k : Int) = true) : cm p i (k + 1) = cm p i k ++ [k] := by
  unfold cm
  rw [List.range_succ, List.filter_append]
  simp [h]
theorem cm_no {p : Pa.Pr} {i : Int} {k : Nat} (h : Pa.comes p i (k : Int) = false) : cm p i (k + 1) = cm p i k := by
  unfold cm
  rw [List.range_succ, List.filter_append]
  simp [h]

set_option maxRecDepth 100000 in
set_option maxHeartbeats 1000000 in
theorem rnexts_any (c : Cp) (i : Int) (w : World) (h : PM c w) :
    Calls Try.prog 18 #[c.v, .int .i64 i] w fun e w' => ∃ v, e = .returned v ∧ w'.ownsRow w.heap.size 3 1 v (Pa.on c.p i).length (ints (up (Pa.on c.p i))) ∧ Below w.heap.size w w' := by
  obtain ⟨i0, hi, hz0, hz1, hz2⟩ := info_parts Try.info3
  have hfew := h.few
  have HC : Hid (∀ (k : Nat) w', Below w.heap.size w w' → Calls Try.prog 23 #[c.v, .int .i64 i, .int .i64 k] w' fun e w'' => e = .returned (.bool (Pa.comes c.p i k)) ∧ Below w'.heap.size w' w'') := hide (fun k w' hb => comes_any c i k w' (h.keep hb))
  have HF : Hid (cm c.p i c.p.length = Pa.on c.p i) := hide (Pa.on_filter c.p i)
  rw [← HF.out]
  clear h HF
  unfold Cp.v at *
  obtain ⟨g, o, cc, a, nm, vs, pr, bl, p⟩ := c
  dsimp only at *
  go_enter Try.func18, Try.ntmps18
  go_wp2
  go_loopw [5, 6] (fun v iv wr => ∃ k : Nat, k ≤ p.length ∧ iv = .int .i64 k ∧ wr.ownsRow w.heap.size 3 1 v (cm p i k).length (ints (up (cm p i k))) ∧ Hid (Below w.heap.size w wr) ∧
      w.heap.size < wr.heap.size ∧ wr.cell? ⟨w.heap.size, 0, none⟩ = some nm ∧ wr.cell? ⟨w.heap.size, 1, none⟩ = some vs ∧ wr.cell? ⟨w.heap.size, 2, none⟩ = some pr ∧ wr.cell? ⟨w.heap.size, 3, none⟩ = some bl ∧ wr.cell? ⟨w.heap.size, 4, none⟩ = some (.slice a p.length cc) ∧ (∀ gg, v.ownBlock = some gg → w.heap.size < gg)) (fun _ iv _ => p.length - (intOf iv).toNat)
  case atStart => exact ⟨0, Nat.zero_le _, rfl, World.ownsRow_nil _ _ _ _, hide ((Below.refl _ _).alloc (Nat.le_refl _) _), by simp, by simp [go_sem], by simp [go_sem], by simp [go_sem], by simp [go_sem], by simp [go_sem], fun gg hg => by cases hg⟩
  case round =>
    obtain ⟨k, hk, rfl, hown, HB, hz, x0, x1, x2, x3, x4, hob⟩ := hrel
    have HO := hide hown
    have HOB := hide hob
    have hlen := cm_len p i k
    clear hown hob
    by_cases hlt : k < p.length
    · cases hq : Pa.comes p i k with
      | true =>
        have HC1 := hide (HC.out k wr HB.out)
        rw [hq] at HC1
        go_wp2_with fail
        refine HC1.out.mono ?_
        rintro e w1 ⟨rfl, hb1⟩
        have HB1 := hide (btrans HB.out hb1)
        have y0 := bsome hb1 x0
        have y1 := bsome hb1 x1
        have y2 := bsome hb1 x2
        have y3 := bsome hb1 x3
        have y4 := bsome hb1 x4
        have hz1' : w.heap.size < w1.heap.size := by have := hb1.size; omega
        have HO1 : Hid (w1.ownsRow w.heap.size 3 1 u5 (cm p i k).length (ints (up (cm p i k)))) := by
          have h1 := HO.out
          refine ⟨h1.1, h1.2.imp id ?_⟩
          rintro ⟨gg, cap, cur, e1, e2, e3, e4⟩
          exact ⟨gg, cap, cur, e1, e2, by rw [hb1.block gg (h1.lt gg (by rw [e1]; rfl)).2]; exact e3, e4⟩
        clear HC1 hb1 x0 x1 x2 x3 x4 HO HB
        go_wp2_with (at_builtin; refine wpList_append_lies _ rfl _ _ 30 rfl w.heap.size 3 i0 (.int .i64 0) 1 8 Try.underlying30 hi hz0 hz1 hz2 rfl (by decide) _ _ _ rfl (HO1.out.alloc _) ⟨w1.heap.size, 0, none⟩ 1 1 [.int .i64 k] rfl rfl ?c1 ?c2 ?c3 ?c4 ?c5 ?c6 _ rfl ?_)
        case c1 => exact cell_one_new _ _ _
        case c2 => intro u hu; simp at hu; subst hu; rfl
        case c3 => decide
        case c4 => unfold maxLen; omega
        case c5 => omega
        case c6 => simp; omega
        intro gg cap w2 hown hgrow hat hlt2
        have hne : ∀ b, b ≤ w.heap.size → some b ≠ u5.ownBlock := fun b hb e => by have := HOB.out b e.symm; omega
        have keep : ∀ (b o' : Nat) u, b ≤ w.heap.size → w1.cell? ⟨b, o', none⟩ = some u → w2.cell? ⟨b, o', none⟩ = some u := fun b o' u hb hu => hgrow.cell (((World.cell?_of_block (w := w1) (a := ⟨b, o', none⟩) (Below.heap_alloc _ _ _ (by show b < _; omega)))).trans hu) (hne b hb)
        have HB2 : Hid (Below w.heap.size w w2) := hide ((HB1.out.alloc (by omega) _).grown hgrow (by simp; omega) (fun j hj => (HO1.out.lt j hj).1))
        have HO2 : Hid (w2.ownsRow w.heap.size 3 1 (.slice (some ⟨gg, 0, none⟩) ((cm p i k).length + 1) cap) (cm p i (k + 1)).length (ints (up (cm p i (k + 1))))) := by
          rw [cm_yes hq, up_app, ints_app, List.length_append]
          exact hown
        have HOB2 : Hid (∀ g', (Value.slice (some ⟨gg, 0, none⟩) ((cm p i k).length + 1) cap).ownBlock = some g' → w.heap.size < g') := hide (fun g' hg' => by
          have e : g' = gg := by simpa [Value.ownBlock] using hg'.symm
          subst e
          rcases hat with h | h
          · exact HOB.out _ h
          · first | omega | (simp at h; omega))
        have z0 := keep _ _ _ (Nat.le_refl _) y0
        have z1 := keep _ _ _ (Nat.le_refl _) y1
        have z2 := keep _ _ _ (Nat.le_refl _) y2
        have z3 := keep _ _ _ (Nat.le_refl _) y3
        have z4 := keep _ _ _ (Nat.le_refl _) y4
        have hz2' : w.heap.size < w2.heap.size := by have := hgrow.size; simp at this; omega
        clear hown hgrow hat keep hne y0 y1 y2 y3 y4
        go_wp2
        go_roundw
        case rel => exact ⟨k + 1, by omega, by go_num, HO2.out, HB2, hz2', z0, z1, z2, z3, z4, HOB2.out⟩
        case measure => simp [intOf]; omega
      | false =>
        have HC1 := hide (HC.out k wr HB.out)
        rw [hq] at HC1
        go_wp2_with fail
        refine HC1.out.mono ?_
        rintro e w1 ⟨rfl, hb1⟩
        have HB1 := hide (btrans HB.out hb1)
        have y0 := bsome hb1 x0
        have y1 := bsome hb1 x1
        have y2 := bsome hb1 x2
        have y3 := bsome hb1 x3
        have y4 := bsome hb1 x4
        have hz1' : w.heap.size < w1.heap.size := by have := hb1.size; omega
        have HO1 : Hid (w1.ownsRow w.heap.size 3 1 u5 (cm p i (k + 1)).length (ints (up (cm p i (k + 1))))) := by
          have h1 := HO.out
          rw [cm_no hq]
          refine ⟨h1.1, h1.2.imp id ?_⟩
          rintro ⟨gg, cap, cur, e1, e2, e3, e4⟩
          exact ⟨gg, cap, cur, e1, e2, by rw [hb1.block gg (h1.lt gg (by rw [e1]; rfl)).2]; exact e3, e4⟩
        clear HC1 hb1 x0 x1 x2 x3 x4 HO HB
        go_wp2
        go_roundw
        case rel => exact ⟨k + 1, by omega, by go_num, HO1.out, HB1, hz1', y0, y1, y2, y3, y4, HOB.out⟩
        case measure => simp [intOf]; omega
    · obtain rfl : k = p.length := by omega
      go_wp2
      go_ret
      exact ⟨_, rfl, HO.out, HB.out⟩
end Go.Proofs.Ytfngmdebmedkjae

/- The contract of the document's own Order: one fault after another put in where it belongs. -/
import Derived.Test.YtmenmlkclggjjaaDoorOrderF
import Derived.Test.YtmenmlkclggjjaaDoorPlainIns
import Derived.Test.YtmenmlkclggjjaaDoorAllF
import Derived.Test.YtmenmlkclggjjaaDoorLawOrders
namespace Go.Proofs.YtmenmlkclggjjaaDoor
open Go.RowKit

/-- The ways in which the look for the place goes on or ends. -/
theorem look_cases (O : List (Int × Int)) (p : Nat) (x : Int × Int) :
    (decide ((O[p]?.getD (0, 0)).2 < x.2) = true ∧ Pl.flt (O[p]?.getD (0, 0)) x = true) ∨
    (decide ((O[p]?.getD (0, 0)).2 < x.2) = false ∧ ((O[p]?.getD (0, 0)).2 == x.2) = true ∧ decide ((O[p]?.getD (0, 0)).1 < x.1) = true ∧ Pl.flt (O[p]?.getD (0, 0)) x = true) ∨
    (decide ((O[p]?.getD (0, 0)).2 < x.2) = false ∧ ((O[p]?.getD (0, 0)).2 == x.2) = true ∧ decide ((O[p]?.getD (0, 0)).1 < x.1) = false ∧ Pl.flt (O[p]?.getD (0, 0)) x = false) ∨
    (decide ((O[p]?.getD (0, 0)).2 < x.2) = false ∧ ((O[p]?.getD (0, 0)).2 == x.2) = false ∧ Pl.flt (O[p]?.getD (0, 0)) x = false) := by
  generalize O[p]?.getD (0, 0) = y
  simp only [Pl.flt_iff, Pl.flt_no, decide_eq_true_eq, decide_eq_false_iff_not, beq_iff_eq, beq_eq_false_iff_ne]
  omega

set_option maxRecDepth 100000 in
set_option maxHeartbeats 4000000 in
theorem rorder_any (l : List (Int × Int)) (lv : Value) (w : World) (hl : l.length ≤ 300) (hv : FSlice w lv l) :
    Calls Tryd.prog 19 #[lv] w fun e w' => ∃ u, e = .returned u ∧ w'.ownsRow w.heap.size 24 2 u (Pl.ord l).length (fcells (Pl.ord l)) ∧ Below w.heap.size w w' := by
  obtain ⟨i0, hi0, hz0, hz1, hz2⟩ := info_parts Tryd.info24
  obtain ⟨la, lc, rfl, _⟩ := hv.open_len
  have HV := hide hv
  clear hv
  go_enter Tryd.func19, Tryd.ntmps19
  go_wp2
  go_loopw [3, 4] (fun v i wr => ∃ k : Nat, k ≤ l.length ∧ i = .int .i64 k ∧ Hid (wr.ownsRow w.heap.size 24 2 v (Pl.ordTo l k).length (fcells (Pl.ordTo l k))) ∧ Hid (Below w.heap.size w wr)) (fun _ i _ => l.length - (intOf i).toNat)
  case atStart => exact ⟨0, Nat.zero_le _, rfl, World.ownsRow_nil _ _ _ _, Below.refl _ _⟩
  case round =>
    obtain ⟨k, hk, rfl, HO, HB⟩ := hrel
    have hz := HB.out.size
    by_cases hlt : k < l.length
    · obtain ⟨b, ob, rfl, hb, hF⟩ := HV.out.open_at rfl (by omega)
      obtain ⟨a0, a1⟩ := (hF.below HB.out hb) k hlt
      have HFl := hide hF
      have hzero := Pl.ordTo_zero l k
      have hins := Pl.ordTo_ins l k
      have hOl := Pl.ordTo_len l k
      obtain ⟨va, cv, rfl, _⟩ := (FSlice.of_own HO.out).open_len
      generalize hx : l[k]?.getD (0, 0) = x at *
      have HXe := hide hx
      clear hx
      generalize Pl.ordTo l k = O at *
      have HZ := hide hzero
      have HI := hide hins
      clear hzero hins hF
      by_cases hx0 : x.1 = 0
      · have e0 : (x.1 == 0) = true := by simpa using hx0
        have HO3 : Hid (wr.ownsRow w.heap.size 24 2 (.slice va O.length cv) (Pl.ordTo l (k + 1)).length (fcells (Pl.ordTo l (k + 1)))) := by unfold Hid; rw [HZ.out hx0]; exact HO.out
        clear hx0
        go_wp2
        go_roundw
        case rel => exact ⟨k + 1, by omega, by go_num, HO3, HB⟩
        case measure => simp [intOf]; omega
      · have e0 : (x.1 == 0) = false := by simpa using hx0
        have HI2 := hide (HI.out hx0)
        clear HI HZ hx0
        go_wp2
        go_loopw [5] (fun p w2 => ∃ (j n : Nat), j ≤ O.length ∧ p = .int .i64 j ∧ Hid (∀ i, i < j → Pl.flt (O[i]?.getD (0, 0)) x = true) ∧ w2 = wr.drewN n) (fun p _ => O.length - (intOf p).toNat)
        case atStart => exact ⟨0, 0, Nat.zero_le _, rfl, fun i hi => by omega, rfl⟩
        case round =>
          obtain ⟨p, n, hp, rfl, HLo, rfl⟩ := hrel
          by_cases hpm : p < O.length
          · obtain ⟨g, cap, hgv, hBg, hg, hnc, hcm, hS, hFO⟩ := own_shape HO.out (by omega)
            simp only [Value.slice.injEq] at hgv
            obtain ⟨rfl, _, rfl⟩ := hgv
            obtain ⟨o0, o1⟩ := hFO p hpm
            simp only [Nat.zero_add] at o0 o1
            have hcs := look_cases O p x
            have HFO := hide hFO
            have HS := hide hS
            clear hFO hS
            have HY : Hid (O[p]?.getD (0, 0) = O[p]?.getD (0, 0)) := rfl
            generalize hy : O[p]?.getD (0, 0) = y at o0 o1 hcs
            have HYe := hide hy
            clear hy HY
            have HG : Hid (y ≠ x → Pl.flt y x = false → Pl.ins x O = Pl.gap O p x) := fun h1 h2 => Pl.ins_new x O p HLo.out hp (fun _ => by rw [HYe.out]; exact ⟨h2, h1⟩)
            rcases hcs with ⟨f1, hf⟩ | ⟨f1, f2, f3, hf⟩ | ⟨f1, f2, f3, hf⟩ | ⟨f1, f2, hf⟩
            · have HLo2 : Hid (∀ i, i < p + 1 → Pl.flt (O[i]?.getD (0, 0)) x = true) := fun i hi => by
                by_cases e : i = p
                · subst e; rw [HYe.out]; exact hf
                · exact HLo.out i (by omega)
              clear hf
              go_wp2
              go_quiet (fail)
              go_wp2
              go_roundw
              case rel => exact ⟨p + 1, _, by omega, by go_num, HLo2, rfl⟩
              case measure => simp [intOf]; omega
            · have HLo2 : Hid (∀ i, i < p + 1 → Pl.flt (O[i]?.getD (0, 0)) x = true) := fun i hi => by
                by_cases e : i = p
                · subst e; rw [HYe.out]; exact hf
                · exact HLo.out i (by omega)
              clear hf
              go_wp2
              go_quiet (fail)
              go_wp2
              go_roundw
              case rel => exact ⟨p + 1, _, by omega, by go_num, HLo2, rfl⟩
              case measure => simp [intOf]; omega
            · by_cases hyx : y = x
              · have HO3 : Hid (wr.ownsRow w.heap.size 24 2 (.slice (some ⟨g, 0, none⟩) O.length cv) (Pl.ordTo l (k + 1)).length (fcells (Pl.ordTo l (k + 1)))) := by
                  unfold Hid
                  rw [HI2.out, Pl.ins_same x O p HLo.out hpm (by rw [HYe.out]; exact hyx)]
                  exact HO.out
                subst hyx
                clear hf
                go_wp2
                go_quiet (fail)
                go_wp2
                go_quiet (fail)
                go_wp2
                go_roundw
                case rel => exact ⟨k + 1, by omega, by go_num, HO3, below_drewN HB.out _⟩
                case measure => simp [intOf]; omega
              · have HN := hide (HG.out hyx hf)
                have heq : ∀ W, Sem.run Tryd.prog (binOp .eql 24 (.agg #[.int .i64 y.1, .int .i64 y.2]) (.agg #[.int .i64 x.1, .int .i64 x.2])) W = .ok (.bool false) W := fun W => by rw [eqlF]; simp [hyx]
                clear hf hyx
                go_wp2
                go_quiet (fail)
                go_wp2
                go_quiet (fail)
                go_wp2_with (at_builtin; refine wpList_append_own _ rfl _ _ 31 rfl w.heap.size 24 i0 (.agg #[.int .i64 0, .int .i64 0]) 2 16 Tryd.underlying31 hi0 hz0 hz1 hz2 rfl (by decide) _ _ _ rfl (by exact HO.out.alloc _) ⟨wr.heap.size, 0, none⟩ 1 1 [.int .i64 0, .int .i64 0] rfl rfl ?c1 ?c2 ?c3 ?c4 ?c5 ?_)
                case c1 => exact cells_two_new wr _ rfl _ _ _
                case c2 => intro u hu; simp at hu; rcases hu with rfl | rfl <;> rfl
                case c3 => unfold maxLen; omega
                case c4 => omega
                case c5 => simp; omega
                · intro v' w3 hown' hgrow _
                  have hgl := Pl.gap_len O O.length (0, 0) (Nat.le_refl _)
                  have hrow : w3.ownsRow w.heap.size 24 2 v' (Pl.gap O O.length (0, 0)).length (fcells (Pl.gap O O.length (0, 0))) := by
                    rw [Pl.gap_end, fcells_app]
                    simpa [fcells] using hown'
                  have HB3 : Hid (Below w.heap.size w w3) := (below_drewN (HB.out.alloc hz _) _).grown hgrow (by simp; omega) (fun j hj => (HO.out.lt j hj).1)
                  obtain ⟨g3, cap3, hv3, hBg3, _, hnc3, hcm3, hS3, hF3⟩ := own_shape hrow (by omega)
                  rw [hgl] at hv3 hnc3
                  subst hv3
                  have HS3 := hide hS3
                  have HF3 := hide hF3
                  clear hown' hgrow hrow hS3 hF3 hgl
                  go_wp2
                  go_loopw [6] (fun j w4 => ∃ (i : Nat) (z : Int × Int), p ≤ i ∧ i ≤ O.length ∧ j = .int .i64 i ∧ Hid (Shape w4 g3 cap3) ∧ Hid (FAt w4 g3 0 (Pl.gap O i z)) ∧ Hid (Below w.heap.size w w4)) (fun j _ => (intOf j).toNat)
                  case atStart => exact ⟨O.length, (0, 0), hp, Nat.le_refl _, by go_num, HS3, HF3, HB3⟩
                  case round =>
                    obtain ⟨i, z, hpi, hio, rfl, HS4, HF4, HB4⟩ := hrel
                    have hgl := Pl.gap_len O i z hio
                    by_cases hgt : p < i
                    · obtain ⟨j, rfl⟩ : ∃ j, i = j + 1 := ⟨i - 1, by omega⟩
                      obtain ⟨q0, q1⟩ := HF4.out j (by omega)
                      rw [Pl.gap_low O (j + 1) j z hio (by omega)] at q0 q1
                      simp only [Nat.zero_add] at q0 q1
                      obtain ⟨⟨s0, t0⟩, fz0⟩ := HS4.out.cell ((j + 1) * 2) (by omega)
                      obtain ⟨⟨s1, t1⟩, fz1⟩ := HS4.out.cell ((j + 1) * 2 + 1) (by omega)
                      have HF5 : Hid (FAt ((wr.setCell ⟨g3, (j + 1) * 2, none⟩ (.int .i64 (O[j]?.getD (0, 0)).1)).setCell ⟨g3, (j + 1) * 2 + 1, none⟩ (.int .i64 (O[j]?.getD (0, 0)).2)) g3 0 (Pl.gap O j (O[j]?.getD (0, 0)))) := by
                        have h := fat_set HS4.out HF4.out (by omega) (j + 1) (by omega) (O[j]?.getD (0, 0))
                        rw [Pl.gap_set O (j + 1) z _ hio, Pl.gap_down O j hio] at h
                        exact h
                      generalize O[j]?.getD (0, 0) = y' at *
                      clear hgl
                      go_wp2
                      go_roundw
                      case rel => exact ⟨j, y', by omega, by omega, by first | rfl | go_num, (HS4.out.setCell _ _).setCell _ _, HF5, (HB4.out.setCell (p := ⟨g3, (j + 1) * 2, none⟩) hBg3 _).setCell (p := ⟨g3, (j + 1) * 2 + 1, none⟩) hBg3 _⟩
                      case measure => simp [intOf] <;> omega
                    · obtain rfl : i = p := by omega
                      obtain ⟨x0, x1⟩ := (HFl.out.below HB4.out hb) k hlt
                      rw [HXe.out] at x0 x1
                      obtain ⟨⟨s0, t0⟩, fz0⟩ := HS4.out.cell (i * 2) (by omega)
                      obtain ⟨⟨s1, t1⟩, fz1⟩ := HS4.out.cell (i * 2 + 1) (by omega)
                      have hgl2 := Pl.gap_len O i x hio
                      have hol : (Pl.ordTo l (k + 1)).length = O.length + 1 := by rw [HI2.out, HN.out]; exact hgl2
                      have HF5 : Hid (((wr.setCell ⟨g3, i * 2, none⟩ (.int .i64 x.1)).setCell ⟨g3, i * 2 + 1, none⟩ (.int .i64 x.2)).ownsRow w.heap.size 24 2 (.slice (some ⟨g3, 0, none⟩) (O.length + 1) cap3) (Pl.ordTo l (k + 1)).length (fcells (Pl.ordTo l (k + 1)))) := by
                        have h := fat_set HS4.out HF4.out (by omega) i (by omega) x
                        rw [Pl.gap_set O i z _ hio, ← HN.out, ← HI2.out] at h
                        have h2 := own_of_cells (B := w.heap.size) ((HS4.out.setCell (i * 2) (.int .i64 x.1)).setCell (i * 2 + 1) (.int .i64 x.2)) hBg3 (by omega) hcm3 h
                        rw [hol] at h2 ⊢
                        exact h2
                      clear hgl hgl2 hol
                      go_wp2
                      go_roundw
                      case rel => exact ⟨k + 1, by omega, by go_num, HF5, (HB4.out.setCell (p := ⟨g3, i * 2, none⟩) hBg3 _).setCell (p := ⟨g3, i * 2 + 1, none⟩) hBg3 _⟩
                      case measure => simp [intOf]; omega
            · have hyx : y ≠ x := by
                intro e
                rw [e] at f2
                simp at f2
              have HN := hide (HG.out hyx hf)
              have heq : ∀ W, Sem.run Tryd.prog (binOp .eql 24 (.agg #[.int .i64 y.1, .int .i64 y.2]) (.agg #[.int .i64 x.1, .int .i64 x.2])) W = .ok (.bool false) W := fun W => by rw [eqlF]; simp [hyx]
              clear hf hyx
              go_wp2
              go_quiet (fail)
              go_wp2
              go_quiet (fail)
              go_wp2_with (at_builtin; refine wpList_append_own _ rfl _ _ 31 rfl w.heap.size 24 i0 (.agg #[.int .i64 0, .int .i64 0]) 2 16 Tryd.underlying31 hi0 hz0 hz1 hz2 rfl (by decide) _ _ _ rfl (by exact HO.out.alloc _) ⟨wr.heap.size, 0, none⟩ 1 1 [.int .i64 0, .int .i64 0] rfl rfl ?c1 ?c2 ?c3 ?c4 ?c5 ?_)
              case c1 => exact cells_two_new wr _ rfl _ _ _
              case c2 => intro u hu; simp at hu; rcases hu with rfl | rfl <;> rfl
              case c3 => unfold maxLen; omega
              case c4 => omega
              case c5 => simp; omega
              · intro v' w3 hown' hgrow _
                have hgl := Pl.gap_len O O.length (0, 0) (Nat.le_refl _)
                have hrow : w3.ownsRow w.heap.size 24 2 v' (Pl.gap O O.length (0, 0)).length (fcells (Pl.gap O O.length (0, 0))) := by
                  rw [Pl.gap_end, fcells_app]
                  simpa [fcells] using hown'
                have HB3 : Hid (Below w.heap.size w w3) := (below_drewN (HB.out.alloc hz _) _).grown hgrow (by simp; omega) (fun j hj => (HO.out.lt j hj).1)
                obtain ⟨g3, cap3, hv3, hBg3, _, hnc3, hcm3, hS3, hF3⟩ := own_shape hrow (by omega)
                rw [hgl] at hv3 hnc3
                subst hv3
                have HS3 := hide hS3
                have HF3 := hide hF3
                clear hown' hgrow hrow hS3 hF3 hgl
                go_wp2
                go_loopw [6] (fun j w4 => ∃ (i : Nat) (z : Int × Int), p ≤ i ∧ i ≤ O.length ∧ j = .int .i64 i ∧ Hid (Shape w4 g3 cap3) ∧ Hid (FAt w4 g3 0 (Pl.gap O i z)) ∧ Hid (Below w.heap.size w w4)) (fun j _ => (intOf j).toNat)
                case atStart => exact ⟨O.length, (0, 0), hp, Nat.le_refl _, by go_num, HS3, HF3, HB3⟩
                case round =>
                  obtain ⟨i, z, hpi, hio, rfl, HS4, HF4, HB4⟩ := hrel
                  have hgl := Pl.gap_len O i z hio
                  by_cases hgt : p < i
                  · obtain ⟨j, rfl⟩ : ∃ j, i = j + 1 := ⟨i - 1, by omega⟩
                    obtain ⟨q0, q1⟩ := HF4.out j (by omega)
                    rw [Pl.gap_low O (j + 1) j z hio (by omega)] at q0 q1
                    simp only [Nat.zero_add] at q0 q1
                    obtain ⟨⟨s0, t0⟩, fz0⟩ := HS4.out.cell ((j + 1) * 2) (by omega)
                    obtain ⟨⟨s1, t1⟩, fz1⟩ := HS4.out.cell ((j + 1) * 2 + 1) (by omega)
                    have HF5 : Hid (FAt ((wr.setCell ⟨g3, (j + 1) * 2, none⟩ (.int .i64 (O[j]?.getD (0, 0)).1)).setCell ⟨g3, (j + 1) * 2 + 1, none⟩ (.int .i64 (O[j]?.getD (0, 0)).2)) g3 0 (Pl.gap O j (O[j]?.getD (0, 0)))) := by
                      have h := fat_set HS4.out HF4.out (by omega) (j + 1) (by omega) (O[j]?.getD (0, 0))
                      rw [Pl.gap_set O (j + 1) z _ hio, Pl.gap_down O j hio] at h
                      exact h
                    generalize O[j]?.getD (0, 0) = y' at *
                    clear hgl
                    go_wp2
                    go_roundw
                    case rel => exact ⟨j, y', by omega, by omega, by first | rfl | go_num, (HS4.out.setCell _ _).setCell _ _, HF5, (HB4.out.setCell (p := ⟨g3, (j + 1) * 2, none⟩) hBg3 _).setCell (p := ⟨g3, (j + 1) * 2 + 1, none⟩) hBg3 _⟩
                    case measure => simp [intOf] <;> omega
                  · obtain rfl : i = p := by omega
                    obtain ⟨x0, x1⟩ := (HFl.out.below HB4.out hb) k hlt
                    rw [HXe.out] at x0 x1
                    obtain ⟨⟨s0, t0⟩, fz0⟩ := HS4.out.cell (i * 2) (by omega)
                    obtain ⟨⟨s1, t1⟩, fz1⟩ := HS4.out.cell (i * 2 + 1) (by omega)
                    have hgl2 := Pl.gap_len O i x hio
                    have hol : (Pl.ordTo l (k + 1)).length = O.length + 1 := by rw [HI2.out, HN.out]; exact hgl2
                    have HF5 : Hid (((wr.setCell ⟨g3, i * 2, none⟩ (.int .i64 x.1)).setCell ⟨g3, i * 2 + 1, none⟩ (.int .i64 x.2)).ownsRow w.heap.size 24 2 (.slice (some ⟨g3, 0, none⟩) (O.length + 1) cap3) (Pl.ordTo l (k + 1)).length (fcells (Pl.ordTo l (k + 1)))) := by
                      have h := fat_set HS4.out HF4.out (by omega) i (by omega) x
                      rw [Pl.gap_set O i z _ hio, ← HN.out, ← HI2.out] at h
                      have h2 := own_of_cells (B := w.heap.size) ((HS4.out.setCell (i * 2) (.int .i64 x.1)).setCell (i * 2 + 1) (.int .i64 x.2)) hBg3 (by omega) hcm3 h
                      rw [hol] at h2 ⊢
                      exact h2
                    clear hgl hgl2 hol
                    go_wp2
                    go_roundw
                    case rel => exact ⟨k + 1, by omega, by go_num, HF5, (HB4.out.setCell (p := ⟨g3, i * 2, none⟩) hBg3 _).setCell (p := ⟨g3, i * 2 + 1, none⟩) hBg3 _⟩
                    case measure => simp [intOf]; omega
          · have HN : Hid (Pl.ins x O = Pl.gap O p x) := Pl.ins_new x O p HLo.out hp (fun h => absurd h hpm)
            have hpd : decide (p < O.length) = false := by simpa using hpm
            go_wp2
            go_quiet (fail)
            go_wp2
            go_quiet (fail)
            go_wp2_with (at_builtin; refine wpList_append_own _ rfl _ _ 31 rfl w.heap.size 24 i0 (.agg #[.int .i64 0, .int .i64 0]) 2 16 Tryd.underlying31 hi0 hz0 hz1 hz2 rfl (by decide) _ _ _ rfl (by exact HO.out.alloc _) ⟨wr.heap.size, 0, none⟩ 1 1 [.int .i64 0, .int .i64 0] rfl rfl ?c1 ?c2 ?c3 ?c4 ?c5 ?_)
            case c1 => exact cells_two_new wr _ rfl _ _ _
            case c2 => intro u hu; simp at hu; rcases hu with rfl | rfl <;> rfl
            case c3 => unfold maxLen; omega
            case c4 => omega
            case c5 => simp; omega
            · intro v' w3 hown' hgrow _
              have hgl := Pl.gap_len O O.length (0, 0) (Nat.le_refl _)
              have hrow : w3.ownsRow w.heap.size 24 2 v' (Pl.gap O O.length (0, 0)).length (fcells (Pl.gap O O.length (0, 0))) := by
                rw [Pl.gap_end, fcells_app]
                simpa [fcells] using hown'
              have HB3 : Hid (Below w.heap.size w w3) := (below_drewN (HB.out.alloc hz _) _).grown hgrow (by simp; omega) (fun j hj => (HO.out.lt j hj).1)
              obtain ⟨g3, cap3, hv3, hBg3, _, hnc3, hcm3, hS3, hF3⟩ := own_shape hrow (by omega)
              rw [hgl] at hv3 hnc3
              subst hv3
              have HS3 := hide hS3
              have HF3 := hide hF3
              clear hown' hgrow hrow hS3 hF3 hgl
              go_wp2
              go_loopw [6] (fun j w4 => ∃ (i : Nat) (z : Int × Int), p ≤ i ∧ i ≤ O.length ∧ j = .int .i64 i ∧ Hid (Shape w4 g3 cap3) ∧ Hid (FAt w4 g3 0 (Pl.gap O i z)) ∧ Hid (Below w.heap.size w w4)) (fun j _ => (intOf j).toNat)
              case atStart => exact ⟨O.length, (0, 0), hp, Nat.le_refl _, by go_num, HS3, HF3, HB3⟩
              case round =>
                obtain ⟨i, z, hpi, hio, rfl, HS4, HF4, HB4⟩ := hrel
                have hgl := Pl.gap_len O i z hio
                by_cases hgt : p < i
                · omega
                · obtain rfl : i = p := by omega
                  obtain ⟨x0, x1⟩ := (HFl.out.below HB4.out hb) k hlt
                  rw [HXe.out] at x0 x1
                  obtain ⟨⟨s0, t0⟩, fz0⟩ := HS4.out.cell (i * 2) (by omega)
                  obtain ⟨⟨s1, t1⟩, fz1⟩ := HS4.out.cell (i * 2 + 1) (by omega)
                  have hgl2 := Pl.gap_len O i x hio
                  have hol : (Pl.ordTo l (k + 1)).length = O.length + 1 := by rw [HI2.out, HN.out]; exact hgl2
                  have HF5 : Hid (((wr.setCell ⟨g3, i * 2, none⟩ (.int .i64 x.1)).setCell ⟨g3, i * 2 + 1, none⟩ (.int .i64 x.2)).ownsRow w.heap.size 24 2 (.slice (some ⟨g3, 0, none⟩) (O.length + 1) cap3) (Pl.ordTo l (k + 1)).length (fcells (Pl.ordTo l (k + 1)))) := by
                    have h := fat_set HS4.out HF4.out (by omega) i (by omega) x
                    rw [Pl.gap_set O i z _ hio, ← HN.out, ← HI2.out] at h
                    have h2 := own_of_cells (B := w.heap.size) ((HS4.out.setCell (i * 2) (.int .i64 x.1)).setCell (i * 2 + 1) (.int .i64 x.2)) hBg3 (by omega) hcm3 h
                    rw [hol] at h2 ⊢
                    exact h2
                  clear hgl hgl2 hol
                  go_wp2
                  go_roundw
                  case rel => exact ⟨k + 1, by omega, by go_num, HF5, (HB4.out.setCell (p := ⟨g3, i * 2, none⟩) hBg3 _).setCell (p := ⟨g3, i * 2 + 1, none⟩) hBg3 _⟩
                  case measure => simp [intOf]; omega
    · obtain rfl : k = l.length := by omega
      go_wp2
      go_ret
      exact ⟨_, rfl, HO.out, HB.out⟩
end Go.Proofs.YtmenmlkclggjjaaDoor

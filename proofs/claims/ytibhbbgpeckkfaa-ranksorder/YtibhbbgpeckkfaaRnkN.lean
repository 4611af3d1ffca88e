import Derived.Test.YtibhbbgpeckkfaaRnkF
import Derived.Laws.EntriesVeiled
/- Package ranks: Check. -/
namespace Go.Proofs.Ytibhbbgpeckkfaa
open Go.RowKit

theorem bset1 {B b o : Nat} {a w : World} (h : Below B a w) (hb : B ≤ b) (v : Value) : Below B a (w.setCell ⟨b, o, none⟩ v) := h.setCell (p := ⟨b, o, none⟩) hb v

set_option maxRecDepth 100000 in
set_option maxHeartbeats 1000000 in
theorem isNode_any (n x : Int) (bn : Nat) (w : World) (h : w.cell? ⟨bn, 0, none⟩ = some (.int .i64 n)) :
    Calls Try.prog 14 #[.int .i64 x, .pointer (some ⟨bn, 0, none⟩)] w fun e w' => e = .returned (.bool (decide (0 ≤ x) && decide (x < n))) ∧ w' = w := by
  by_cases h1 : 0 ≤ x
  · have d1 : decide (0 ≤ x) = true := by simpa using h1
    by_cases h2 : x < n
    · have d2 : decide (x < n) = true := by simpa using h2
      go_enter Try.func14, Try.ntmps14
      go_wp2
      go_ret
      exact ⟨by simp [h1, h2], rfl⟩
    · have d2 : decide (x < n) = false := by simpa using h2
      go_enter Try.func14, Try.ntmps14
      go_wp2
      go_ret
      exact ⟨by simp, rfl⟩
  · have d1 : decide (0 ≤ x) = false := by simpa using h1
    go_enter Try.func14, Try.ntmps14
    go_wp2
    go_ret
    exact ⟨by simp, rfl⟩

set_option maxRecDepth 100000 in
set_option maxHeartbeats 1000000 in
theorem isBad_any (n : Int) (x : Int × Int) (bn c5 : Nat) (w : World) (h : w.cell? ⟨bn, 0, none⟩ = some (.int .i64 n)) (h5 : w.cell? ⟨c5, 0, none⟩ = some (.func (.func 14) #[] #[.pointer (some ⟨bn, 0, none⟩)])) :
    Calls Try.prog 16 #[.agg #[.int .i64 x.1, .int .i64 x.2], .pointer (some ⟨c5, 0, none⟩)] w fun e w' => e = .returned (.bool (gbad n x)) ∧ Below w.heap.size w w' := by
  obtain ⟨a, b⟩ := x
  have hl1 := World.block_lt_of_cell? _ _ h
  have hl5 := World.block_lt_of_cell? _ _ h5
  simp only at hl1 hl5
  have hb : Below w.heap.size w (w.alloc (.cells #[.int .i64 a, .int .i64 b] 30)) := (Below.refl _ _).alloc (Nat.le_refl _) _
  have HB := hide hb
  have HA := hide (isNode_any n a bn (w.alloc (.cells #[.int .i64 a, .int .i64 b] 30)) (bsome hb h))
  have HC := hide (isNode_any n b bn (w.alloc (.cells #[.int .i64 a, .int .i64 b] 30)) (bsome hb h))
  have e0 : gbad n (a, b) = (!(decide (0 ≤ a) && decide (a < n)) || !(decide (0 ≤ b) && decide (b < n))) := by
    unfold gbad
    rw [Bool.eq_iff_iff]
    simp
    omega
  have EG := hide e0
  clear e0 hb
  generalize hq1 : (decide (0 ≤ a) && decide (a < n)) = q1 at *
  generalize hq2 : (decide (0 ≤ b) && decide (b < n)) = q2 at *
  clear hq1 hq2
  show Calls Try.prog 16 #[.agg #[.int .i64 a, .int .i64 b], .pointer (some ⟨c5, 0, none⟩)] w _
  cases q1 with
  | false =>
    go_enter Try.func16, Try.ntmps16
    go_wp2_with fail
    refine HA.out.mono ?_
    rintro e w1 ⟨rfl, rfl⟩
    go_wp2
    go_ret
    exact ⟨by rw [EG.out]; rfl, HB.out⟩
  | true =>
    go_enter Try.func16, Try.ntmps16
    go_wp2_with fail
    refine HA.out.mono ?_
    rintro e w1 ⟨rfl, rfl⟩
    go_wp2_with fail
    refine HC.out.mono ?_
    rintro e w1 ⟨rfl, rfl⟩
    go_wp2
    go_ret
    exact ⟨by rw [EG.out]; rfl, HB.out⟩

set_option maxRecDepth 100000 in
set_option maxHeartbeats 1000000 in
theorem idxf_any (n : Int) (L : List (Int × Int)) (v : Value) (bn c5 : Nat) (w : World) (hv : ER w v L) (hl : L.length ≤ 20000) (h : w.cell? ⟨bn, 0, none⟩ = some (.int .i64 n)) (h5 : w.cell? ⟨c5, 0, none⟩ = some (.func (.func 14) #[] #[.pointer (some ⟨bn, 0, none⟩)])) :
    Calls Try.prog 15 #[v, .func (.func 16) #[] #[.pointer (some ⟨c5, 0, none⟩)]] w fun e w' => (∃ r : Int, e = .returned (.int .i64 r) ∧ ((r = -1 ∧ gfe n 0 L = (0, 0)) ∨ (0 ≤ r ∧ gfe n 0 L = (14, r)))) ∧ Below w.heap.size w w' := by
  obtain ⟨a, c, rfl, hv⟩ := hv
  have HV := hide hv
  have HN := hide h
  have H5 := hide h5
  clear hv h h5
  go_enter Try.func15, Try.ntmps15
  go_wp2
  go_loopw [8] (fun iv wr => ∃ i : Nat, i ≤ L.length ∧ iv = .int .i64 i ∧ Hid (Below w.heap.size w wr) ∧ Hid (gfe n 0 L = gfe n i (L.drop i))) (fun iv _ => L.length - (intOf iv).toNat)
  case atStart => exact ⟨0, Nat.zero_le _, rfl, hide (Below.refl _ _), hide rfl⟩
  case round =>
    obtain ⟨i, hi, rfl, HB, HG⟩ := hrel
    by_cases hlt : i < L.length
    · obtain ⟨x, hx⟩ : ∃ x, L[i]? = some x := ⟨_, List.getElem?_eq_getElem hlt⟩
      obtain ⟨g, o, rfl, q⟩ := HV.out (fun e => by rw [e] at hlt; simp at hlt)
      have c0 := bsome HB.out (q i x hx).1
      have c1 := bsome HB.out (q i x hx).2
      have HS := hide (gfe_step (n := n) hx)
      have CB := hide (isBad_any n x bn c5 wr (bsome HB.out HN.out) (bsome HB.out H5.out))
      clear q hx
      obtain ⟨x1, x2⟩ := x
      simp only at c0 c1
      go_wp2_with fail
      refine CB.out.mono ?_
      rintro e w1 ⟨rfl, hb1⟩
      have HB1 := hide (btrans HB.out hb1)
      clear HB hb1 CB c0 c1
      cases hg : gbad n (x1, x2) with
      | true =>
        have HR : Hid (gfe n 0 L = (14, (i : Int))) := hide (by rw [HG.out, HS.out, if_pos hg])
        clear HG HS
        go_wp2
        go_ret
        exact ⟨⟨_, rfl, .inr ⟨by omega, HR.out⟩⟩, HB1.out⟩
      | false =>
        have HR : Hid (gfe n 0 L = gfe n (i + 1) (L.drop (i + 1))) := hide (by rw [HG.out, HS.out, if_neg (by rw [hg]; simp)])
        clear HG HS
        go_wp2
        go_roundw
        case rel => exact ⟨i + 1, by omega, by go_num, HB1, HR⟩
        case measure => simp [intOf]; omega
    · obtain rfl : i = L.length := by omega
      have HR : Hid (gfe n 0 L = (0, 0)) := hide (by rw [HG.out, List.drop_length]; rfl)
      clear HG
      go_wp2
      go_ret
      exact ⟨⟨_, rfl, .inl ⟨rfl, HR.out⟩⟩, HB.out⟩

set_option maxRecDepth 100000 in
set_option maxHeartbeats 2000000 in
theorem rkCheck_any (n : Int) (L : List (Int × Int)) (v : Value) (w : World) (h : ER w v L) :
    Calls Try.prog 7 #[.int .i64 n, v] w fun e w' => e = .returned (.agg #[.int .i64 (gfl n L).1, .int .i64 (gfl n L).2]) ∧ Below w.heap.size w w' := by
  have hk : ∀ w', Below w.heap.size w w' → ER w' v L := fun w' hb => h.keep hb
  have HK := hide hk
  obtain ⟨a, c, rfl, -⟩ := h
  have mf := fun (fn : Fn) (first cap : Array Value) (w : World) => (rfl : (Instr.makeFunc fn first cap).run Try.prog w = .ok (.func fn first cap) w)
  have hb1 : Below w.heap.size w (w.alloc (.cells #[.int .i64 n] 3)) := (Below.refl _ _).alloc (Nat.le_refl _) _
  have hb2 : Below w.heap.size w ((w.alloc (.cells #[.int .i64 n] 3)).alloc (.cells #[.int .i64 0, .int .i64 0] 25)) := hb1.alloc (by simp) _
  clear hk
  by_cases hbad : n < 0 ∨ 1000 < n ∨ 20000 < L.length
  · have e0 : gfl n L = (8, -1) := by unfold gfl; rw [if_pos hbad]
    rw [e0]
    have HB2 := hide hb1
    clear e0 hb1 hb2 HK
    by_cases b1 : n < 0
    · clear hbad
      go_enter Try.func7, Try.ntmps7
      go_wp2
      refine bodyPost_ret (v := .agg #[.int .i64 8, .int .i64 (-1)]) (by simp [results, Try.results7, go_sem]) rfl ⟨rfl, ?_⟩
      exact HB2.out.alloc (by simp) _
    · by_cases b2 : 1000 < n
      · clear hbad
        go_enter Try.func7, Try.ntmps7
        go_wp2
        refine bodyPost_ret (v := .agg #[.int .i64 8, .int .i64 (-1)]) (by simp [results, Try.results7, go_sem]) rfl ⟨rfl, ?_⟩
        exact HB2.out.alloc (by simp) _
      · have b3 : 20000 < L.length := by omega
        clear hbad
        go_enter Try.func7, Try.ntmps7
        go_wp2
        refine bodyPost_ret (v := .agg #[.int .i64 8, .int .i64 (-1)]) (by simp [results, Try.results7, go_sem]) rfl ⟨rfl, ?_⟩
        exact HB2.out.alloc (by simp) _
  · have e0 : gfl n L = gfe n 0 L := by unfold gfl; rw [if_neg hbad]
    rw [e0]
    have b1 : ¬ n < 0 := by omega
    have b2 : ¬ 1000 < n := by omega
    have b3 : ¬ 20000 < L.length := by omega
    have d1 : decide (n < 0) = false := by simpa using b1
    have d2 : decide (1000 < n) = false := by simpa using b2
    have d3 : decide ((20000 : Int) < (L.length : Int)) = false := by simp; omega
    clear e0 hbad
    go_enter Try.func7, Try.ntmps7
    go_wp2_with fail
    refine (idxf_any n L _ w.heap.size (w.heap.size + 1 + 1) _ (HK.out _ ?k) (by omega) ?n ?f).mono ?_
    case k => exact (hb2.alloc (by simp; omega) _)
    case n => simp [go_sem]
    case f => simp [go_sem]
    rintro e w1 ⟨⟨r, rfl, hr⟩, hb5⟩
    have r0 : w1.cell? ⟨w.heap.size + 1, 0, none⟩ = some (.int .i64 0) := bsome hb5 (by simp [go_sem])
    have r1 : w1.cell? ⟨w.heap.size + 1, 1, none⟩ = some (.int .i64 0) := bsome hb5 (by simp [go_sem])
    have f0 : w1.frozen? ⟨w.heap.size + 1, 0, none⟩ = false := (hb5.frozen (p := ⟨w.heap.size + 1, 0, none⟩) (by simp)).trans (by simp [go_sem])
    have f1 : w1.frozen? ⟨w.heap.size + 1, 1, none⟩ = false := (hb5.frozen (p := ⟨w.heap.size + 1, 1, none⟩) (by simp)).trans (by simp [go_sem])
    have HB5 : Hid (Below w.heap.size w w1) := hide (btrans (hb2.alloc (by simp; omega) _) hb5)
    clear hb5 hb1 hb2 HK
    rcases hr with ⟨rfl, hr⟩ | ⟨hr0, hr⟩
    · have HR := hide hr
      clear hr
      go_wp2
      refine bodyPost_ret (v := .agg #[.int .i64 0, .int .i64 0]) (by simp [results, Try.results7, go_sem, r0, r1]) rfl ⟨by rw [HR.out], ?_⟩
      exact bset1 (bset1 HB5.out (by omega) _) (by omega) _
    · have HR := hide hr
      clear hr
      go_wp2
      refine bodyPost_ret (v := .agg #[.int .i64 14, .int .i64 r]) (by simp [results, Try.results7, go_sem, r0, r1]) rfl ⟨by rw [HR.out], ?_⟩
      exact bset1 (bset1 HB5.out (by omega) _) (by omega) _
end Go.Proofs.Ytibhbbgpeckkfaa

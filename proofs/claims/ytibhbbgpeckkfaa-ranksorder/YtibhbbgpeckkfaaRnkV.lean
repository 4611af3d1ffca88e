import Derived.Test.YtibhbbgpeckkfaaRnkQ
import Derived.Shelf.Bits.Mul64
import Derived.Laws.CopyOwn
import Derived.Deep.RegionLaw
/- The library's Repeat, of one number, as package ranks calls it. -/
namespace Go.Proofs.Ytibhbbgpeckkfaa
open Go.RowKit

def mulRen : Go.Shelf.Ren := ⟨fun | 212 => 46 | 263 => 53 | 264 => 54 | n => n, fun | 46 => 38 | 51 => 70 | 53 => 72 | 146 => 82 | 148 => 84 | n => n, fun | n => n⟩
theorem mulLays : Go.Proofs.Lays.n212 Try.prog mulRen := {
  mixed := by kernel_rfl
  f212 := Try.func46.trans (congrArg some (by kernel_rfl))
  f263 := Try.func53.trans (congrArg some (by kernel_rfl))
  f264 := Try.func54.trans (congrArg some (by kernel_rfl))
  t46 := Try.underlying38
  a46 := Try.isAgg38
  z46 := Try.sizeOf38
  v46 := Try.zeroValue38
  t51 := Try.underlying70
  a51 := Try.isAgg70
  z51 := Try.sizeOf70
  v51 := Try.zeroValue70
  t53 := Try.underlying72
  a53 := Try.isAgg72
  z53 := Try.sizeOf72
  v53 := Try.zeroValue72
  t146 := Try.underlying82
  a146 := Try.isAgg82
  z146 := Try.sizeOf82
  v146 := Try.zeroValue82
  t148 := Try.underlying84
  a148 := Try.isAgg84
  z148 := Try.sizeOf84
  v148 := Try.zeroValue84 }
theorem mul_any (y : Nat) (hy : y ≤ 1000000) (w : World) : Calls Try.prog 46 #[.int .u64 1, .int .u64 y] w fun e w' => e = .returned (.tuple #[.int .u64 0, .int .u64 y]) ∧ w' = w := by
  have h := Any.bits_Mul mulLays 1 y (by decide) (by omega) w
  have e1 : 1 * y / 18446744073709551616 = 0 := Nat.div_eq_of_lt (by omega)
  have e2 : 1 * y % 18446744073709551616 = y := by rw [Nat.one_mul]; exact Nat.mod_eq_of_lt (by omega)
  rw [e1, e2] at h
  exact h
theorem made_is (n : Nat) : madeCells #[Value.int .i64 0] n = (List.replicate n (Value.int .i64 0)).toArray := by
  apply Array.ext_getElem?
  intro k
  by_cases hk : k < n
  · rw [made_get n k hk]
    simp [hk]
  · have h1 : (madeCells #[Value.int .i64 0] n).size = n := by simp [madeCells]
    rw [Array.getElem?_eq_none (by omega), Array.getElem?_eq_none (by simp; omega)]
theorem make_is (n : Nat) (hn : n ≤ 300) (w : World) : (Instr.makeSlice 27 (.int .i64 (n : Int)) (.int .i64 (n : Int))).run Try.prog w = .ok (.slice (some ⟨w.heap.size, 0, none⟩) n n) (w.alloc (.cells (List.replicate n (Value.int .i64 0)).toArray 3)) := by
  obtain ⟨i0, hi, hz0, hz1, hz2⟩ := info_parts Try.info3
  have := run_make (P := Try.prog) w 27 3 i0 (.int .i64 0) Try.underlying27 hi hz0 .i64 .i64 (n : Int) (n : Int) (by omega) (Int.le_refl _) (by rw [hz2]; omega) (by omega)
  rw [hz1] at this
  rw [← made_is]
  simpa [Value.cells] using this
/-- So many are laid. -/
def rpt (m n : Nat) : List Value := List.replicate m (.int .i64 (-1)) ++ List.replicate (n - m) (.int .i64 0)
theorem rpt_len (m n : Nat) (h : m ≤ n) : (rpt m n).length = n := by simp [rpt]; omega
theorem rpt_more (m c n : Nat) (h : m + c ≤ n) : splice (rpt m n) m (List.replicate c (.int .i64 (-1))) = rpt (m + c) n := by
  unfold splice rpt
  have e1 : (List.replicate m (Value.int .i64 (-1)) ++ List.replicate (n - m) (Value.int .i64 0)).take m = List.replicate m (Value.int .i64 (-1)) := by
    rw [List.take_append_of_le_length (by simp)]
    simp
  have e2 : (List.replicate m (Value.int .i64 (-1)) ++ List.replicate (n - m) (Value.int .i64 0)).drop (m + (List.replicate c (Value.int .i64 (-1))).length) = List.replicate (n - (m + c)) (Value.int .i64 0) := by
    rw [List.drop_append, List.length_replicate, List.length_replicate, List.drop_of_length_le (by simp), List.nil_append, List.drop_replicate]
    congr 1
    omega
  rw [e1, e2, ← List.append_assoc, List.replicate_append_replicate]
theorem rpt_get (m n k : Nat) (h : k < m) : (rpt m n)[k]? = some (.int .i64 (-1)) := by
  unfold rpt
  rw [List.getElem?_append_left (by simpa using h)]
  simp [h]

set_option maxRecDepth 100000 in
set_option maxHeartbeats 2000000 in
theorem repeat_any (n g : Nat) (w : World) (hn : n ≤ 300) (h0 : 0 < n) (hc : w.cell? ⟨g, 0, none⟩ = some (.int .i64 (-1))) :
    Calls Try.prog 33 #[.slice (some ⟨g, 0, none⟩) 1 1, .int .i64 n] w fun e w' => e = .returned (.slice (some ⟨w.heap.size, 0, none⟩) n n) ∧ AR w.heap.size w' (List.replicate n (-1)) ∧ Below w.heap.size w w' := by
  have hg := World.block_lt_of_cell? _ _ hc
  simp only at hg
  have CM := hide (mul_any n (by omega) w)
  have mk := make_is n hn
  have hi3 : (Try.prog.info? 3).map (·.size) = some 1 := by
    obtain ⟨i0, hi, hz0, hz1, hz2⟩ := info_parts Try.info3
    rw [hi]
    simp [hz1]
  have HI3 := hide hi3
  obtain ⟨Y, hY⟩ : ∃ Y, Y = List.replicate n (Value.int .i64 0) := ⟨_, rfl⟩
  rw [← hY] at mk
  have HY := hide hY
  have HB0 : Hid (Below w.heap.size w (w.alloc (.cells Y.toArray 3))) := hide ((Below.refl _ _).alloc (Nat.le_refl _) _)
  have HC1 : Hid ((w.alloc (.cells Y.toArray 3)).cell? ⟨g, 0, none⟩ = some (.int .i64 (-1))) := hide (bsome HB0.out hc)
  have HG1 : Hid ((w.alloc (.cells Y.toArray 3)).heap[w.heap.size]? = some (.cells Y.toArray 3 (0, 0))) := hide (heap_alloc_new w _)
  have hcp : ∃ W2, (Builtin.copy_ #[27, 27] 3 #[.slice (some ⟨w.heap.size, 0, none⟩) n n, .slice (some ⟨g, 0, none⟩) 1 1]).run Try.prog (w.alloc (.cells Y.toArray 3)) = .ok (.int .i64 1) W2 ∧ W2.heap[w.heap.size]? = some (.cells (rpt 1 n).toArray 3 (0, 0)) ∧ Below w.heap.size w W2 := by
    have e0 : Y.length = n := by rw [hY]; simp
    have := run_copy_row (P := Try.prog) (w.alloc (.cells Y.toArray 3)) 27 27 3 3 w.heap.size 0 n n ⟨g, 0, none⟩ 1 1 Y.toArray 3 [.int .i64 (-1)] Try.underlying27 hi3 HG1.out (by show 1 = Nat.min 1 n; exact (Nat.min_eq_left (by omega)).symm) (fun j v hv => by
      match j, hv with
      | 0, hv => simp at hv; subst hv; rw [add_off]; exact HC1.out) (by show 0 + 1 ≤ Y.length; omega) (fun v hv => by simp at hv; subst hv; rfl)
    refine ⟨_, this, ?_, below_setRow HB0.out (Nat.le_refl _) _⟩
    rw [setRow_heap _ _ _ _ 3 _ HG1.out]
    have e1 := rpt_more 0 1 n (by omega)
    have e2 : rpt 0 n = Y := by rw [hY]; simp [rpt]
    rw [e2, Nat.zero_add] at e1
    rw [← e1]
    rfl
  obtain ⟨W2, cp, hg2, hb2⟩ := hcp
  have HR := hide hg2
  have HB2 := hide hb2
  clear hi3 hc hY hg2 hb2 HC1 HG1 HB0
  go_enter Try.func33, Try.ntmps33
  go_wp2_with fail
  refine CM.out.mono ?_
  rintro e w1 ⟨rfl, rfl⟩
  go_wp2
  go_loopw [8] (fun mv wr => ∃ m : Nat, 1 ≤ m ∧ m ≤ n ∧ mv = .int .i64 m ∧ Hid (wr.heap[w1.heap.size]? = some (.cells (rpt m n).toArray 3 (0, 0))) ∧ Hid (Below w1.heap.size w1 wr)) (fun mv _ => n - (intOf mv).toNat)
  case atStart => exact ⟨1, Nat.le_refl _, by omega, rfl, HR, HB2⟩
  case round =>
    obtain ⟨m, h1, h2, rfl, HR, HB⟩ := hrel
    by_cases hlt : m < n
    · have d1 : decide ((m : Int) < (n : Int)) = true := by simp; omega
      have m0 : (0 : Int) ≤ (m : Int) := by omega
      have m1 : (m : Int) ≤ (n : Int) := by omega
      obtain ⟨c, hc⟩ : ∃ c, c = Nat.min m (n - m) := ⟨_, rfl⟩
      have hc1 : m + c ≤ n := by rw [hc]; have : Nat.min m (n - m) ≤ n - m := Nat.min_le_right _ _; omega
      have hc2 : 1 ≤ c := by rw [hc]; exact Nat.le_min.2 ⟨h1, by omega⟩
      have hc3 : c ≤ m := by rw [hc]; exact Nat.min_le_left _ _
      have hcp : ∃ W3, (Builtin.copy_ #[27, 27] 3 #[.slice (some ⟨w1.heap.size, m, none⟩) (n - m) (n - m), .slice (some ⟨w1.heap.size, 0, none⟩) m n]).run Try.prog wr.drew = .ok (.int .i64 c) W3 ∧ W3.heap[w1.heap.size]? = some (.cells (rpt (m + c) n).toArray 3 (0, 0)) ∧ Below w1.heap.size w1 W3 := by
        have hh : wr.drew.heap[w1.heap.size]? = some (.cells (rpt m n).toArray 3 (0, 0)) := HR.out
        have := run_copy_row (P := Try.prog) wr.drew 27 27 3 3 w1.heap.size m (n - m) (n - m) ⟨w1.heap.size, 0, none⟩ m n (rpt m n).toArray 3 (List.replicate c (.int .i64 (-1))) Try.underlying27 HI3.out hh (by rw [List.length_replicate, hc]) (fun j v hv => by
          have hj : j < c := by simpa using (List.getElem?_eq_some_iff.1 hv).1
          have e : v = .int .i64 (-1) := by
            rw [List.getElem?_replicate, if_pos hj] at hv
            exact (Option.some.inj hv).symm
          subst e
          refine World.news_of_block hh j _ ?_
          simpa using rpt_get m n j (by omega)) (by rw [List.length_replicate]; have := rpt_len m n (by omega); simpa [this] using hc1) (fun v hv => by rw [List.eq_of_mem_replicate hv]; rfl)
        rw [List.length_replicate] at this
        refine ⟨_, this, ?_, below_setRow (below_drewN HB.out 1) (Nat.le_refl _) _⟩
        rw [setRow_heap _ _ _ _ 3 _ hh, ← rpt_more m c n hc1]
        simp [splice]
      obtain ⟨W3, cp, hg3, hb3⟩ := hcp
      have HR3 := hide hg3
      have HB3 := hide hb3
      clear hc hg3 hb3 HR HB
      go_wp2
      go_region
      go_wp2
      go_roundw
      case rel => exact ⟨m + c, by omega, hc1, by go_num, HR3, HB3⟩
      case measure => simp [intOf]; omega
    · obtain rfl : m = n := by omega
      have d1 : decide ((m : Int) < (m : Int)) = false := by simp
      go_wp2
      go_ret
      refine ⟨rfl, ⟨fun k x hx => ?_, fun k => ?_, ?_⟩, HB.out⟩
      · have hk : k < m := by simpa using (List.getElem?_eq_some_iff.1 hx).1
        have e : x = -1 := by
          rw [List.getElem?_replicate, if_pos hk] at hx
          exact (Option.some.inj hx).symm
        subst e
        rw [cell_of_row wr w1.heap.size k _ 3 (0, 0) HR.out]
        simpa using rpt_get m m k hk
      · have := HR.out
        simp [World.frozen?, this]
      · rcases Nat.lt_or_ge w1.heap.size wr.heap.size with h | h
        · exact h
        · have := HR.out
          rw [Array.getElem?_eq_none h] at this
          cases this
end Go.Proofs.Ytibhbbgpeckkfaa

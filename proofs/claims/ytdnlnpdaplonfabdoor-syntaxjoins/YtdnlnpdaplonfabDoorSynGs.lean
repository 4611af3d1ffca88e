import Derived.Test.YtdnlnpdaplonfabDoorSynGr
/- What is too great: programs. -/
namespace Go.Proofs.YtdnlnpdaplonfabDoor
open Go.RowKit

structure LbG (n : Nat) (l : List Sx.Tr) : Prop where
  len : l.length ≤ 9223372036854775807
  each : ∀ (i : Nat) d, l[i]? = some d → LbS n (Sx.gB d) ∧ (Sx.gP d).length ≤ 9223372036854775807

def GP (n : Nat) (l : List Sx.Tr) (w : World) (e : Ending) (w' : World) : Prop := ∃ g, e = .returned (.bool g) ∧ (g = false → Sm n l) ∧ Kp [] w w'

set_option maxRecDepth 100000 in
set_option maxHeartbeats 2000000 in
theorem great_any (n : Nat) (w : World) (P : Nat → Prop) (l : List Sx.Tr) (a : Option Addr) (cap : Nat) (h : Sl (RG w P n) w P l (.slice a l.length cap)) (hb : LbG n l) :
    Calls Tryd.prog 16 #[.agg #[.slice a l.length cap]] w (GP n l w) := by
  have HS := hide h
  have hl := hb.len
  have HLB := hide hb.each
  have IH := hide (weighStmts_any n)
  clear h hb
  by_cases h100 : 100 < l.length
  · have d1 : decide ((100 : Int) < (l.length : Int)) = true := by simp; omega
    go_enter Tryd.func16, Tryd.ntmps16
    go_wp2
    go_ret
    exact ⟨true, rfl, (fun h => by simp at h), (Kp.refl _ _).alloc _⟩
  · have d1 : decide ((100 : Int) < (l.length : Int)) = false := by simp; omega
    go_enter Tryd.func16, Tryd.ntmps16
    go_wp2
    go_loopw [3, 4] (fun lv iv wr => ∃ (k : Nat) (y : Int), k ≤ l.length ∧ iv = .int .i64 k ∧ lv = .int .i64 y ∧ 0 ≤ y ∧ y ≤ 8000 ∧ y = 8000 - (Sx.sum (fun d => Sx.wS n (Sx.gB d)) (l.take k) : Nat) ∧ Hid (∀ (i : Nat) d, i < k → l[i]? = some d → (Sx.gP d).length ≤ 100) ∧ Hid (Kp [] w wr) ∧ wr.cell? ⟨w.heap.size, 0, none⟩ = some (.slice a l.length cap)) (fun _ iv _ => l.length - (intOf iv).toNat)
    case atStart => exact ⟨0, 8000, Nat.zero_le _, rfl, rfl, by omega, by omega, by simp [Sx.sum], fun i d hi => absurd hi (by omega), (Kp.refl _ _).alloc _, by simp [go_sem]⟩
    case round =>
      obtain ⟨wo, hwo⟩ : ∃ wo, wo = wr := ⟨_, rfl⟩
      subst hwo
      obtain ⟨k, y, hk, rfl, rfl, hy0, hy1, hye, HPS, HK, p0⟩ := hrel
      by_cases hlt : k < l.length
      · obtain ⟨b, off, nm, at', ps, body, uP, uB, rfl, -, hd, m0, m1, m2, m3, hP, hB⟩ := GL.nth (HS.out.keep HK.out (by simp) (fun d c h => h.keep HK.out (by simp))) k hlt
        obtain ⟨aP, cP, rfl, -⟩ := id hP
        obtain ⟨aB, cB, rfl⟩ := hB.slice
        have hst : Sx.sum (fun d => Sx.wS n (Sx.gB d)) (l.take (k + 1)) = Sx.sum (fun d => Sx.wS n (Sx.gB d)) (l.take k) + Sx.wS n body := Sx.sum_take (fun d => Sx.wS n (Sx.gB d)) l k _ hd
        have HST := hide hst
        obtain ⟨b1, b2⟩ := HLB.out k _ hd
        have HB1 : Hid (LbS n body) := b1
        have HD := hide hd
        have HP := hide hP
        have HB := hide hB
        have HYE := hide hye
        have hk0 : (0 : Int) ≤ (k : Int) := by omega
        have hk1 : (k : Int) < (l.length : Int) := by omega
        have hblt := World.block_lt_of_cell? _ _ m0
        have hblt3 := World.block_lt_of_cell? _ _ p0
        clear hst hP hB hd hye b1 b2
        by_cases hn1 : 100 < (bs nm).size
        · have d3 : decide ((100 : Int) < ((bs nm).size : Int)) = true := by simp; omega
          go_wp2
          go_ret
          exact ⟨true, rfl, (fun h => by simp at h), HK.out.alloc _⟩
        · have d3 : decide ((100 : Int) < ((bs nm).size : Int)) = false := by simp; omega
          by_cases hn2 : 100 < ps.length
          · have d4 : decide ((100 : Int) < (ps.length : Int)) = true := by simp; omega
            go_wp2
            go_ret
            exact ⟨true, rfl, (fun h => by simp at h), HK.out.alloc _⟩
          · have d4 : decide ((100 : Int) < (ps.length : Int)) = false := by simp; omega
            go_wp2
            go_loopw [6] (fun iv wr => ∃ q : Nat, q ≤ ps.length ∧ iv = .int .i64 q ∧ wr = wo.alloc (.cells #[.string (bs nm), .int .i64 at', .slice aP ps.length cP, .slice aB body.length cB] 45)) (fun iv _ => ps.length - (intOf iv).toNat)
            case atStart => exact ⟨0, Nat.zero_le _, rfl, rfl⟩
            case round =>
              obtain ⟨q, hq, rfl, rfl⟩ := hrel
              by_cases hlq : q < ps.length
              · obtain ⟨g, og, nm5, T5, rfl, -, -, s0, s1⟩ := PL.nth HP.out q hlq
                have hglt := World.block_lt_of_cell? _ _ s0
                have hq0 : (0 : Int) ≤ (q : Int) := by omega
                have hq1 : (q : Int) < (ps.length : Int) := by omega
                by_cases hn5 : 100 < (bs nm5).size
                · have d5 : decide ((100 : Int) < ((bs nm5).size : Int)) = true := by simp; omega
                  go_wp2
                  go_ret
                  exact ⟨true, rfl, (fun h => by simp at h), HK.out.alloc _⟩
                · have d5 : decide ((100 : Int) < ((bs nm5).size : Int)) = false := by simp; omega
                  by_cases hn6 : 100 < (bs T5).size
                  · have d6 : decide ((100 : Int) < ((bs T5).size : Int)) = true := by simp; omega
                    go_wp2
                    go_ret
                    exact ⟨true, rfl, (fun h => by simp at h), HK.out.alloc _⟩
                  · have d6 : decide ((100 : Int) < ((bs T5).size : Int)) = false := by simp; omega
                    go_wp2
                    go_roundw
                    case rel => exact ⟨q + 1, by omega, by go_num, by trivial⟩
                    case measure => simp [intOf]; omega
              · obtain rfl : q = ps.length := by omega
                go_wp2_with fail
                refine (IH.out _ P body _ y (HB.out.keep ((Kp.refl [] _).alloc _) (by simp)) HB1.out hy0 hy1).mono ?_
                rintro e w2 ⟨r, rfl, hr1, hr2, hr3, hk2⟩
                have K2 : Hid (Kp [] wo w2) := ((Kp.refl [] _).alloc _).trans hk2
                have q0 : w2.cell? ⟨w.heap.size, 0, none⟩ = some (.slice (some ⟨b, off, none⟩) l.length cap) := K2.out.some p0 (by simp)
                clear hk2
                by_cases g1 : r < 0
                · have d6 : decide (r < 0) = true := by simpa using g1
                  go_wp2
                  go_ret
                  exact ⟨true, rfl, (fun h => by simp at h), HK.out.trans K2.out⟩
                · have d6 : decide (r < 0) = false := by simpa using g1
                  go_wp2
                  go_roundw
                  case rel =>
                    refine ⟨k + 1, r, by omega, by go_num, rfl, by omega, by omega, ?_, ?_, HK.out.trans K2.out, q0⟩
                    · have := hr3 (by omega)
                      have := HYE.out
                      rw [HST.out]
                      push_cast
                      omega
                    · intro i d hi hd
                      by_cases hik : i < k
                      · exact HPS.out i d hik hd
                      · obtain rfl : i = k := by omega
                        have hde := Option.some.inj (hd.symm.trans HD.out)
                        rw [hde]
                        show ps.length ≤ 100
                        omega
                  case measure => simp [intOf]; omega
      · obtain rfl : k = l.length := by omega
        go_wp2
        go_ret
        refine ⟨false, rfl, fun _ => ⟨by omega, fun i d hd => ?_, ?_⟩, HK.out⟩
        · have := HPS.out i d (List.getElem?_eq_some_iff.1 hd).1 hd
          omega
        · have e : Sx.wG n l = Sx.sum (fun d => Sx.wS n (Sx.gB d)) l := rfl
          rw [List.take_length] at hye
          omega
end Go.Proofs.YtdnlnpdaplonfabDoor

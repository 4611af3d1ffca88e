import Derived.Test.YtdnlnpdaplonfabDoorSynEu
/- What is too great. -/
namespace Go.Proofs.YtdnlnpdaplonfabDoor
open Go.RowKit

/-- No list is longer than there can be. -/
def LbE : Nat → List Sx.Tr → Prop
  | 0, _ => True
  | n + 1, l => l.length ≤ 9223372036854775807 ∧ ∀ (i : Nat) d, l[i]? = some d → LbE n (Sx.eL d)
def LbS : Nat → List Sx.Tr → Prop
  | 0, _ => True
  | n + 1, l => l.length ≤ 9223372036854775807 ∧ ∀ (i : Nat) d, l[i]? = some d → LbE n (Sx.sE d) ∧ LbS n (Sx.sB d) ∧ LbS n (Sx.sO d)

/-- Contract: how much is left. -/
def WE (n : Nat) : Prop := ∀ (w : World) (P : Nat → Prop) (l : List Sx.Tr) (v : Value) (x : Int), EL w P n l v → LbE n l → 0 ≤ x → x ≤ 8000 →
  Calls Tryd.prog 60 #[v, .int .i64 x] w fun e w' => ∃ r : Int, e = .returned (.int .i64 r) ∧ r ≤ x ∧ -9223372036854775808 ≤ r ∧ (0 ≤ r → r = x - Sx.wE n l) ∧ w' = w

set_option maxRecDepth 100000 in
set_option maxHeartbeats 1000000 in
theorem weighExprs_step (n : Nat) (ih : WE n) : WE (n + 1) := by
  intro w P l v x h hb hx0 hx1
  obtain ⟨a, cap, rfl⟩ := h.slice
  have HS := hide h
  have IH := hide ih
  have hl := hb.1
  have HLB := hide hb.2
  have hwE : Sx.wE (n + 1) l = l.length + Sx.sum (fun d => Sx.wE n (Sx.eL d)) l := rfl
  have HWE := hide hwE
  clear h ih hb hwE
  go_enter Tryd.func60, Tryd.ntmps60
  go_wp2
  go_loopw [1, 5] (fun lv iv wr => ∃ (k : Nat) (y : Int), k ≤ l.length ∧ iv = .int .i64 k ∧ lv = .int .i64 y ∧ y ≤ x ∧ -9223372036854775808 ≤ y ∧ (0 ≤ y → y = x - l.length - (Sx.sum (fun d => Sx.wE n (Sx.eL d)) (l.take k) : Nat)) ∧ wr = w) (fun _ iv _ => l.length - (intOf iv).toNat)
  case atStart => exact ⟨0, x - l.length, Nat.zero_le _, rfl, rfl, by omega, by omega, fun _ => by simp [Sx.sum], rfl⟩
  case round =>
    obtain ⟨k, y, hk, rfl, rfl, hy1, hy2, hy3, rfl⟩ := hrel
    by_cases hlt : k < l.length
    · by_cases hy : 0 ≤ y
      · have hye := hy3 hy
        have d1 : decide ((k : Int) < (l.length : Int)) = true := by simp; omega
        have d2 : decide (0 ≤ y) = true := by simpa using hy
        obtain ⟨b, off, op, nm, z, L, aL, cL, rfl, -, hd, m0, m1, m2, m3, hL⟩ := HS.out.nth k hlt
        have hst : Sx.sum (fun d => Sx.wE n (Sx.eL d)) (l.take (k + 1)) = Sx.sum (fun d => Sx.wE n (Sx.eL d)) (l.take k) + Sx.wE n L := Sx.sum_take (fun d => Sx.wE n (Sx.eL d)) l k _ hd
        have HST := hide hst
        have HC := hide (IH.out _ P L (.slice aL L.length cL) y hL (HLB.out k _ hd) hy (by omega))
        have hk0 : (0 : Int) ≤ (k : Int) := by omega
        have hk1 : (k : Int) < (l.length : Int) := by omega
        have HYE := hide hye
        clear hst hL hd hy3 hye
        by_cases hn : 100 < (bs nm).size
        · have d3 : decide ((100 : Int) < ((bs nm).size : Int)) = true := by simp; omega
          go_wp2
          go_ret
          exact ⟨_, rfl, by omega, by omega, fun h => by omega, rfl⟩
        · have d3 : decide ((100 : Int) < ((bs nm).size : Int)) = false := by simp; omega
          go_wp2_with fail
          refine HC.out.mono ?_
          rintro e w1 ⟨r, rfl, hr1, hr2, hr3, rfl⟩
          go_wp2
          go_roundw
          case rel => exact ⟨k + 1, r, by omega, by go_num, rfl, by omega, by omega, fun h => by have := hr3 h; have := HYE.out; rw [HST.out]; push_cast; omega, by trivial⟩
          case measure => simp [intOf]; omega
      · have d1 : decide ((k : Int) < (l.length : Int)) = true := by simp; omega
        have d2 : decide (0 ≤ y) = false := by simpa using hy
        go_wp2
        go_ret
        exact ⟨_, rfl, by omega, by omega, fun h => by omega, rfl⟩
    · obtain rfl : k = l.length := by omega
      have d1 : decide ((l.length : Int) < (l.length : Int)) = false := by simp
      go_wp2
      go_ret
      refine ⟨_, rfl, by omega, by omega, fun h => ?_, rfl⟩
      have := hy3 h
      rw [List.take_length] at this
      rw [HWE.out]
      push_cast
      omega
theorem weighExprs_any (n : Nat) : WE n := by
  induction n with
  | zero => intro w P l v x h; cases h
  | succ n ih => exact weighExprs_step n ih

def WS (n : Nat) : Prop := ∀ (w : World) (P : Nat → Prop) (l : List Sx.Tr) (v : Value) (x : Int), SL w P n l v → LbS n l → 0 ≤ x → x ≤ 8000 →
  Calls Tryd.prog 35 #[v, .int .i64 x] w fun e w' => ∃ r : Int, e = .returned (.int .i64 r) ∧ r ≤ x ∧ -9223372036854775808 ≤ r ∧ (0 ≤ r → r = x - Sx.wS n l) ∧ Kp [] w w'

set_option maxRecDepth 100000 in
set_option maxHeartbeats 1000000 in
theorem weighStmts_step (n : Nat) (ih : WS n) : WS (n + 1) := by
  intro w P l v x h hb hx0 hx1
  obtain ⟨a, cap, rfl⟩ := h.slice
  have HS := hide h
  have IH := hide ih
  have IHE := hide (weighExprs_any n)
  have hl := hb.1
  have HLB := hide hb.2
  have hwE : Sx.wS (n + 1) l = l.length + Sx.sum (fun d => Sx.wE n (Sx.sE d) + Sx.wS n (Sx.sB d) + Sx.wS n (Sx.sO d)) l := rfl
  have HWE := hide hwE
  clear h ih hb hwE
  go_enter Tryd.func35, Tryd.ntmps35
  go_wp2
  go_loopw [1, 5] (fun lv iv wr => ∃ (k : Nat) (y : Int), k ≤ l.length ∧ iv = .int .i64 k ∧ lv = .int .i64 y ∧ y ≤ x ∧ -9223372036854775808 ≤ y ∧ (0 ≤ y → y = x - l.length - (Sx.sum (fun d => Sx.wE n (Sx.sE d) + Sx.wS n (Sx.sB d) + Sx.wS n (Sx.sO d)) (l.take k) : Nat)) ∧ Hid (Kp [] w wr)) (fun _ iv _ => l.length - (intOf iv).toNat)
  case atStart => exact ⟨0, x - l.length, Nat.zero_le _, rfl, rfl, by omega, by omega, fun _ => by simp [Sx.sum], Kp.refl _ _⟩
  case round =>
    obtain ⟨k, y, hk, rfl, rfl, hy1, hy2, hy3, HK⟩ := hrel
    by_cases hlt : k < l.length
    · by_cases hy : 0 ≤ y
      · have hye := hy3 hy
        have d1 : decide ((k : Int) < (l.length : Int)) = true := by simp; omega
        have d2 : decide (0 ≤ y) = true := by simpa using hy
        obtain ⟨b, off, D, at', A, B, T, N, E, body, els, uE, uB, uL, rfl, -, hd, m0, m1, m2, m3, m4, m5, m6, m7, m8, hE, hB, hL⟩ := (HS.out.keep HK.out (by simp)).nth k hlt
        obtain ⟨aE, cE, rfl⟩ := hE.slice
        obtain ⟨aB, cB, rfl⟩ := hB.slice
        obtain ⟨aL, cL, rfl⟩ := hL.slice
        have hst : Sx.sum (fun d => Sx.wE n (Sx.sE d) + Sx.wS n (Sx.sB d) + Sx.wS n (Sx.sO d)) (l.take (k + 1)) = Sx.sum (fun d => Sx.wE n (Sx.sE d) + Sx.wS n (Sx.sB d) + Sx.wS n (Sx.sO d)) (l.take k) + (Sx.wE n E + Sx.wS n body + Sx.wS n els) := Sx.sum_take (fun d => Sx.wE n (Sx.sE d) + Sx.wS n (Sx.sB d) + Sx.wS n (Sx.sO d)) l k _ hd
        have HST := hide hst
        obtain ⟨b1, b2, b3⟩ := HLB.out k _ hd
        have HB1 : Hid (LbE n E) := b1
        have HB2 : Hid (LbS n body) := b2
        have HB3 : Hid (LbS n els) := b3
        have HE := hide hE
        have HB := hide hB
        have HL := hide hL
        have hk0 : (0 : Int) ≤ (k : Int) := by omega
        have hk1 : (k : Int) < (l.length : Int) := by omega
        have HYE := hide hye
        have hblt := World.block_lt_of_cell? _ _ m0
        clear hst hE hB hL hd hy3 hye b1 b2 b3
        by_cases hn1 : 100 < (bs A).size
        · have d3 : decide ((100 : Int) < ((bs A).size : Int)) = true := by simp; omega
          go_wp2
          go_ret
          exact ⟨_, rfl, by omega, by omega, fun h => by omega, HK.out.alloc _⟩
        · have d3 : decide ((100 : Int) < ((bs A).size : Int)) = false := by simp; omega
          by_cases hn2 : 100 < (bs B).size
          · have d4 : decide ((100 : Int) < ((bs B).size : Int)) = true := by simp; omega
            go_wp2
            go_ret
            exact ⟨_, rfl, by omega, by omega, fun h => by omega, HK.out.alloc _⟩
          · have d4 : decide ((100 : Int) < ((bs B).size : Int)) = false := by simp; omega
            by_cases hn3 : 100 < (bs T).size
            · have d5 : decide ((100 : Int) < ((bs T).size : Int)) = true := by simp; omega
              go_wp2
              go_ret
              exact ⟨_, rfl, by omega, by omega, fun h => by omega, HK.out.alloc _⟩
            · have d5 : decide ((100 : Int) < ((bs T).size : Int)) = false := by simp; omega
              go_wp2_with fail
              refine (IHE.out _ P E _ y (HE.out.keep ((Kp.refl [] _).alloc _) (by simp)) HB1.out hy (by omega)).mono ?_
              rintro e w1 ⟨r1, rfl, hr1, hr2, hr3, rfl⟩
              by_cases g1 : 0 ≤ r1
              · have d6 : decide (0 ≤ r1) = true := by simpa using g1
                go_wp2_with fail
                refine (IH.out _ P body _ r1 (HB.out.keep ((Kp.refl [] _).alloc _) (by simp)) HB2.out g1 (by omega)).mono ?_
                rintro e w2 ⟨r2, rfl, hs1, hs2, hs3, hk2⟩
                have K2 : Hid (Kp [] wr w2) := ((Kp.refl [] _).alloc _).trans hk2
                have c8 : w2.cell? ⟨wr.heap.size, 8, none⟩ = some (.slice aL els.length cL) := hk2.some (by simp [go_sem]) (by simp)
                clear hk2
                by_cases g2 : 0 ≤ r2
                · have d7 : decide (0 ≤ r2) = true := by simpa using g2
                  go_wp2_with fail
                  refine (IH.out _ P els _ r2 (HL.out.keep K2.out (by simp)) HB3.out g2 (by omega)).mono ?_
                  rintro e w3 ⟨r3, rfl, ht1, ht2, ht3, hk3⟩
                  have K3 := hide (K2.out.trans hk3)
                  clear hk3
                  go_wp2
                  go_roundw
                  case rel => exact ⟨k + 1, r3, by omega, by go_num, rfl, by omega, by omega, fun h => by have := ht3 h; have := hs3 g2; have := hr3 g1; have := HYE.out; rw [HST.out]; push_cast; omega, HK.out.trans K3.out⟩
                  case measure => simp [intOf]; omega
                · have d7 : decide (0 ≤ r2) = false := by simpa using g2
                  go_wp2
                  go_roundw
                  case rel => exact ⟨k + 1, r2, by omega, by go_num, rfl, by omega, by omega, fun h => by omega, HK.out.trans K2.out⟩
                  case measure => simp [intOf]; omega
              · have d6 : decide (0 ≤ r1) = false := by simpa using g1
                go_wp2
                go_roundw
                case rel => exact ⟨k + 1, r1, by omega, by go_num, rfl, by omega, by omega, fun h => by omega, HK.out.alloc _⟩
                case measure => simp [intOf]; omega
      · have d1 : decide ((k : Int) < (l.length : Int)) = true := by simp; omega
        have d2 : decide (0 ≤ y) = false := by simpa using hy
        go_wp2
        go_ret
        exact ⟨_, rfl, by omega, by omega, fun h => by omega, HK.out⟩
    · obtain rfl : k = l.length := by omega
      have d1 : decide ((l.length : Int) < (l.length : Int)) = false := by simp
      go_wp2
      go_ret
      refine ⟨_, rfl, by omega, by omega, fun h => ?_, HK.out⟩
      have := hy3 h
      rw [List.take_length] at this
      rw [HWE.out]
      push_cast
      omega
theorem weighStmts_any (n : Nat) : WS n := by
  induction n with
  | zero => intro w P l v x h; cases h
  | succ n ih => exact weighStmts_step n ih
end Go.Proofs.YtdnlnpdaplonfabDoor

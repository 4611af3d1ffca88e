import Derived.Test.YtbepaimbbclejaaStL
import Derived.Test.YtbepaimbbclejaaChK
import Derived.Deep.RegionHeld3
/- Package chans: Take. -/
namespace Go.Proofs.Ytbepaimbbclejaa
open Go.RowKit

set_option maxRecDepth 100000
set_option maxHeartbeats 1000000
theorem set_two {X : World} {b : Nat} {a0 a1 : Value} (h0 : X.cell? ⟨b, 0, none⟩ = some a0) (h1 : X.cell? ⟨b, 1, none⟩ = some a1) (u v : Value) : ((X.setCell ⟨b, 0, none⟩ u).setCell ⟨b, 1, none⟩ v).cell? ⟨b, 0, none⟩ = some u ∧ ((X.setCell ⟨b, 0, none⟩ u).setCell ⟨b, 1, none⟩ v).cell? ⟨b, 1, none⟩ = some v := by
  have n01 : (⟨b, 1, none⟩ : Addr) ≠ ⟨b, 0, none⟩ := fun e => by injection e with _ e; omega
  have n10 : (⟨b, 0, none⟩ : Addr) ≠ ⟨b, 1, none⟩ := fun e => n01 e.symm
  refine ⟨(World.cell?_setCell_other _ _ _ _ n01).trans (World.cell?_setCell_same _ _ _ h0), World.cell?_setCell_same _ _ _ ((World.cell?_setCell_other _ _ _ _ n10).trans h1)⟩
/-- Senders stay, where an end only goes to another home. -/
theorem SN.move {E : List En} {N : List Int} (h : SN E N) (e hm : Int) (h2 : hm ≠ -2) : SN (Ld.move E e hm) N := by
  intro k hk
  rw [h k hk]
  unfold Ld.move Ld.may
  rcases Ld.cs E e with ⟨j, x, rfl, hx, hj, h1, h3⟩ | ⟨h1, h3, -⟩
  · rw [h1, h3, Int.toNat_natCast]
    split
    · rename_i hc
      have hx2 : (x.h == -2) = false := by
        simp only [Bool.true_and, Bool.and_eq_true, Bool.not_eq_true'] at hc
        exact hc.2
      have := Bk.send_set hx { x with h := hm } (k : Int)
      have c1 : Bk.cnt (k : Int) { x with h := hm } = Bk.cnt (k : Int) x := by
        unfold Bk.cnt
        rw [hx2, beq_eq_false_iff_ne.2 h2]
      rw [c1] at this
      rw [Nat.add_right_cancel this]
    · rfl
  · rw [h1]; rfl
theorem Bk.given_move {E : List En} {j tk : Int} (hj : j < (E.length : Int)) (ht : 0 ≤ tk) : Bk.given E j tk = Ld.move E j tk := by
  unfold Bk.given Ld.move Ld.may
  rcases Ld.cs E j with ⟨k, x, rfl, hx, hk, h1, h2⟩ | ⟨h1, h2, h3⟩
  · rw [h1, h2, decide_eq_true (by omega : -1 ≤ tk)]
    by_cases e : x.h = -2
    · rw [if_neg (fun h => h.2 e), e]; rfl
    · rw [if_pos ⟨by omega, e⟩, beq_eq_false_iff_ne.2 e]; rfl
  · rw [h1, if_neg (fun h => h3 ⟨h.1, hj⟩)]; rfl
section
variable {B : Nat} {w : World} {q pl : Nat} {ve vc : Value} {P : List Pl} {E : List En} {S N : List Int} {I : List (List (Int × Int))} {G : List Bool}
theorem csTake_no (h : ST B w q pl ve vc P E S N I G) (o : BOk E S I G) (hN : SN E N) (e tk : Int) (hn : Bk.there E e false = false ∨ Bk.waits E S I G e = true ∨ tk < 0) : Calls Try.prog 19 #[.pointer (some ⟨q, 0, none⟩), .int .i64 e, .int .i64 tk] w fun r w' => r = .returned (.tuple #[.agg #[.int .i64 0, .int .i64 0], .int .i64 (-1)]) ∧ Below w.heap.size w w' := by
  have hb0 : Below w.heap.size w (w.alloc (.cells #[.int .i64 0, .int .i64 0] 59)) := (Below.refl _ _).alloc (Nat.le_refl _) _
  have hz : ∀ X, Below (w.alloc (.cells #[.int .i64 0, .int .i64 0] 59)).heap.size (w.alloc (.cells #[.int .i64 0, .int .i64 0] 59)) X → X.cell? ⟨w.heap.size, 0, none⟩ = some (.int .i64 0) ∧ X.cell? ⟨w.heap.size, 1, none⟩ = some (.int .i64 0) ∧ X.frozen? ⟨w.heap.size, 0, none⟩ = false ∧ X.frozen? ⟨w.heap.size, 1, none⟩ = false := fun X hX => ⟨bsome hX (by simp [go_sem]), bsome hX (by simp [go_sem]), (hX.frozen (p := ⟨w.heap.size, 0, none⟩) (by simp)).trans (by simp [go_sem]), (hX.frozen (p := ⟨w.heap.size, 1, none⟩) (by simp)).trans (by simp [go_sem])⟩
  have HZ := hide hz
  clear hz
  cases h1 : Bk.there E e false with
  | false =>
    have HS := hide (recvFr_no (h.keep hb0) e h1)
    clear h o hN hn h1
    go_enter Try.func19, Try.ntmps19
    go_wp2_with fail
    refine HS.out.mono ?_
    rintro e w1 ⟨rfl, hb⟩
    obtain ⟨z0, z1, z2, z3⟩ := HZ.out _ hb
    have HB := hide (btrans hb0 hb)
    clear hb hb0
    go_wp2
    refine bodyPost_ret (v := .tuple #[.agg #[.int .i64 0, .int .i64 0], .int .i64 (-1)]) (by simp [results, Try.results19, go_sem, z0, z1]) rfl ⟨rfl, ?_⟩
    exact bset (bset HB.out (p := ⟨w.heap.size, 0, none⟩) (Nat.le_refl _) _) (p := ⟨w.heap.size, 1, none⟩) (Nat.le_refl _) _
  | true =>
    have h2 : Bk.there E e true = false := by
      obtain ⟨k, x, -, -, ha, hs, -, -⟩ := Bk.there_some h1
      unfold Bk.there
      rw [ha, hs]
      simp
    obtain ⟨c, p, sl, M, g, hc, hp, hS, hnn, hI, hG, hch, -⟩ := h.of o hN h1
    have HS := hide (recvFr_yes (h.keep hb0) e h1 hc hp)
    have hw : Bk.waits E S I G e = (decide (M.length = 0) && decide (0 < Bk.send E (c : Int))) := by
      unfold Bk.waits
      rw [h2, if_neg (by decide), h1, if_pos rfl, hc, Int.toNat_natCast, List.getD_eq_getElem?_getD, hI]
      rfl
    have HR : Hid (∀ X, Below w.heap.size w X → Calls Try.prog 24 #[.pointer (some ⟨p.1, 0, none⟩)] X fun e w' => e = .returned (.bool (decide (M.length = 0) && decide ((0 : Int) < (Bk.send E (c : Int) : Int)))) ∧ w' = X) := hide (fun X hX => stopR_any (hch.keep (X := fun _ => True) (Kx.of_below hX) trivial trivial (fun _ _ => trivial)))
    have hd : decide ((0 : Int) < (Bk.send E (c : Int) : Int)) = decide (0 < Bk.send E (c : Int)) := decide_eq_decide.2 (by omega)
    rw [hd, ← hw] at HR
    cases hwt : Bk.waits E S I G e with
    | true =>
      rw [hwt] at HR
      clear h o hN hn h1 h2 hc hp hS hnn hI hG hch hw hd hwt
      go_enter Try.func19, Try.ntmps19
      go_wp2_with fail
      refine HS.out.mono ?_
      rintro e w1 ⟨rfl, hb⟩
      obtain ⟨z0, z1, z2, z3⟩ := HZ.out _ hb
      have HB := hide (btrans hb0 hb)
      clear hb hb0
      go_wp2_with fail
      refine (HR.out _ HB.out).mono ?_
      rintro e w2 ⟨rfl, rfl⟩
      go_wp2
      refine bodyPost_ret (v := .tuple #[.agg #[.int .i64 0, .int .i64 0], .int .i64 (-1)]) (by simp [results, Try.results19, go_sem, z0, z1]) rfl ⟨rfl, ?_⟩
      exact bset (bset HB.out (p := ⟨w.heap.size, 0, none⟩) (Nat.le_refl _) _) (p := ⟨w.heap.size, 1, none⟩) (Nat.le_refl _) _
    | false =>
      rw [hwt] at HR
      have ht : tk < 0 := by
        rcases hn with hn | hn | hn
        · rw [h1] at hn; cases hn
        · rw [hwt] at hn; cases hn
        · exact hn
      have HT := hide (isTask_any tk)
      rw [decide_eq_false (by omega : ¬ 0 ≤ tk)] at HT
      clear h o hN hn h1 h2 hc hp hS hnn hI hG hch hw hd hwt ht
      go_enter Try.func19, Try.ntmps19
      go_wp2_with fail
      refine HS.out.mono ?_
      rintro e w1 ⟨rfl, hb⟩
      obtain ⟨z0, z1, z2, z3⟩ := HZ.out _ hb
      have HB := hide (btrans hb0 hb)
      clear hb hb0
      go_wp2_with fail
      refine (HR.out _ HB.out).mono ?_
      rintro e w2 ⟨rfl, rfl⟩
      go_wp2_with fail
      refine (HT.out _).mono ?_
      rintro e w3 ⟨rfl, rfl⟩
      go_wp2
      refine bodyPost_ret (v := .tuple #[.agg #[.int .i64 0, .int .i64 0], .int .i64 (-1)]) (by simp [results, Try.results19, go_sem, z0, z1]) rfl ⟨rfl, ?_⟩
      exact bset (bset HB.out (p := ⟨w.heap.size, 0, none⟩) (Nat.le_refl _) _) (p := ⟨w.heap.size, 1, none⟩) (Nat.le_refl _) _
theorem csTake_nil (h : ST B w q pl ve vc P E S N I G) (o : BOk E S I G) (hN : SN E N) (e tk : Int) (h1 : Bk.there E e false = true) (hwt : Bk.waits E S I G e = false) (ht : 0 ≤ tk) (hM : I[(Ld.at E e).c.toNat]? = some []) : Calls Try.prog 19 #[.pointer (some ⟨q, 0, none⟩), .int .i64 e, .int .i64 tk] w fun r w' => r = .returned (.tuple #[.agg #[.int .i64 0, .int .i64 0], .int .i64 0]) ∧ Below w.heap.size w w' := by
  have hb0 : Below w.heap.size w (w.alloc (.cells #[.int .i64 0, .int .i64 0] 59)) := (Below.refl _ _).alloc (Nat.le_refl _) _
  have HZ : Hid (∀ X, Below (w.alloc (.cells #[.int .i64 0, .int .i64 0] 59)).heap.size (w.alloc (.cells #[.int .i64 0, .int .i64 0] 59)) X → X.cell? ⟨w.heap.size, 0, none⟩ = some (.int .i64 0) ∧ X.cell? ⟨w.heap.size, 1, none⟩ = some (.int .i64 0) ∧ X.frozen? ⟨w.heap.size, 0, none⟩ = false ∧ X.frozen? ⟨w.heap.size, 1, none⟩ = false) := hide (fun X hX => ⟨bsome hX (by simp [go_sem]), bsome hX (by simp [go_sem]), (hX.frozen (p := ⟨w.heap.size, 0, none⟩) (by simp)).trans (by simp [go_sem]), (hX.frozen (p := ⟨w.heap.size, 1, none⟩) (by simp)).trans (by simp [go_sem])⟩)
  have h2 : Bk.there E e true = false := by
    obtain ⟨k, x, -, -, ha, hs, -, -⟩ := Bk.there_some h1
    unfold Bk.there
    rw [ha, hs]
    simp
  obtain ⟨c, p, sl, M, g, hc, hp, hS, hnn, hI, hG, hch, -⟩ := h.of o hN h1
  rw [hc, Int.toNat_natCast, hI] at hM
  cases hM
  have HS := hide (recvFr_yes (h.keep hb0) e h1 hc hp)
  have hw : Bk.waits E S I G e = decide (0 < Bk.send E (c : Int)) := by
    unfold Bk.waits
    rw [h2, if_neg (by decide), h1, if_pos rfl, hc, Int.toNat_natCast, List.getD_eq_getElem?_getD, hI]
    rfl
  have HR : Hid (∀ X, Below w.heap.size w X → Calls Try.prog 24 #[.pointer (some ⟨p.1, 0, none⟩)] X fun e w' => e = .returned (.bool false) ∧ w' = X) := hide (fun X hX => by
    have := stopR_any (hch.keep (X := fun _ => True) (Kx.of_below hX) trivial trivial (fun _ _ => trivial))
    rw [show decide ((0 : Int) < (Bk.send E (c : Int) : Int)) = decide (0 < Bk.send E (c : Int)) from decide_eq_decide.2 (by omega), ← hw, hwt] at this
    exact this)
  have HT := hide (isTask_any tk)
  rw [decide_eq_true ht] at HT
  have HC : Hid (∀ X, Below w.heap.size w X → Calls Try.prog 46 #[.pointer (some ⟨p.2.1, 0, none⟩)] X fun e w' => e = .returned (.tuple #[.agg #[.int .i64 0, .int .i64 0], .bool false]) ∧ Below X.heap.size X w') := hide (fun X hX => takej_nil (hch.keep (X := fun _ => True) (Kx.of_below hX) trivial trivial (fun _ _ => trivial)).r)
  have HP : Hid (∀ X, Below w.heap.size w X → X.cell? ⟨p.1, 0, none⟩ = some (.pointer (some ⟨p.2.1, 0, none⟩))) := hide (fun X hX => bsome hX hch.c0)
  clear h o hN h1 h2 hc hp hS hnn hI hG hch hw hwt ht
  go_enter Try.func19, Try.ntmps19
  go_wp2_with fail
  refine HS.out.mono ?_
  rintro e w1 ⟨rfl, hb⟩
  have HB := hide (btrans hb0 hb)
  have p1 := HP.out _ HB.out
  have HBz := hide hb
  clear hb hb0
  go_wp2_with fail
  refine (HR.out _ HB.out).mono ?_
  rintro e w2 ⟨rfl, rfl⟩
  go_wp2_with fail
  refine (HT.out _).mono ?_
  rintro e w3 ⟨rfl, rfl⟩
  go_wp2_with fail
  refine (HC.out _ HB.out).mono ?_
  rintro e w4 ⟨rfl, hb⟩
  obtain ⟨z0, z1, z2, z3⟩ := HZ.out _ (btrans HBz.out hb)
  have HB4 := hide (btrans HB.out hb)
  clear hb p1
  have y1 := set_two z0 z1 (.int .i64 0) (.int .i64 0)
  have y2 := set_two y1.1 y1.2 (.int .i64 0) (.int .i64 0)
  go_wp2
  refine bodyPost_ret (v := .tuple #[.agg #[.int .i64 0, .int .i64 0], .int .i64 0]) (by simp [results, Try.results19, go_sem, y2.1, y2.2]) rfl ⟨rfl, ?_⟩
  exact bset (bset (bset (bset HB4.out (p := ⟨w.heap.size, 0, none⟩) (Nat.le_refl _) _) (p := ⟨w.heap.size, 1, none⟩) (Nat.le_refl _) _) (p := ⟨w.heap.size, 0, none⟩) (Nat.le_refl _) _) (p := ⟨w.heap.size, 1, none⟩) (Nat.le_refl _) _
end
end Go.Proofs.Ytbepaimbbclejaa

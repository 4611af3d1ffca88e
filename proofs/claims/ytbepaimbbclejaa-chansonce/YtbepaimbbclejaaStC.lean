import Derived.Test.YtbepaimbbclejaaStB
import Derived.Deep.RegionHeld3
/- Package chans: which channel an end is of; may an item be sent? -/
namespace Go.Proofs.Ytbepaimbbclejaa
open Go.RowKit

set_option maxRecDepth 100000
set_option maxHeartbeats 1000000
section
variable {B : Nat} {w : World} {q pl : Nat} {ve vc : Value} {P : List Pl} {E : List En} {S N : List Int} {I : List (List (Int × Int))} {G : List Bool}
theorem chanOf_no (h : ST B w q pl ve vc P E S N I G) (e : Int) (s : Bool) (hn : Bk.there E e s = false) : Calls Try.prog 47 #[.pointer (some ⟨q, 0, none⟩), .int .i64 e, .bool s] w fun r w' => r = .returned (.pointer none) ∧ Below w.heap.size w w' := by
  have HE := hide (end_any h.lg e)
  have c0 := h.c0
  have hcs : Ld.has E e = false ∨ (Ld.has E e = true ∧ (Ld.at E e).s ≠ s) ∨ (Ld.has E e = true ∧ (Ld.at E e).s = s ∧ (Ld.at E e).h = -2) := by
    unfold Bk.there at hn
    cases h1 : Ld.has E e with
    | false => exact .inl rfl
    | true =>
      by_cases h2 : (Ld.at E e).s = s
      · by_cases h3 : (Ld.at E e).h = -2
        · exact .inr (.inr ⟨rfl, h2, h3⟩)
        · rw [h1, h2, beq_self_eq_true, beq_eq_false_iff_ne.2 h3] at hn
          cases hn
      · exact .inr (.inl ⟨rfl, h2⟩)
  generalize Ld.has E e = hs at *
  generalize Ld.at E e = y at *
  clear hn h
  rcases hcs with rfl | ⟨rfl, h2⟩ | ⟨rfl, h2, h3⟩
  · go_enter Try.func47, Try.ntmps47
    go_wp2_with fail
    refine HE.out.mono ?_
    rintro e w1 ⟨rfl, hb⟩
    go_wp2
    go_ret
    exact ⟨rfl, hb.alloc hb.size _⟩
  · obtain ⟨yc, ys, yh, yd⟩ := y
    simp only at h2 HE
    have hys : ys = !s := by cases ys <;> cases s <;> simp_all
    subst hys
    clear h2
    cases s
    all_goals
      go_enter Try.func47, Try.ntmps47
      go_wp2_with fail
      refine HE.out.mono ?_
      rintro e w1 ⟨rfl, hb⟩
      go_wp2
      go_ret
      exact ⟨rfl, hb.alloc hb.size _⟩
  · obtain ⟨yc, ys, yh, yd⟩ := y
    simp only at h2 h3 HE
    subst h2 h3
    cases ys
    all_goals
      go_enter Try.func47, Try.ntmps47
      go_wp2_with fail
      refine HE.out.mono ?_
      rintro e w1 ⟨rfl, hb⟩
      go_wp2
      go_ret
      exact ⟨rfl, hb.alloc hb.size _⟩
theorem chanOf_yes (h : ST B w q pl ve vc P E S N I G) (e : Int) (s : Bool) (hy : Bk.there E e s = true) {c : Nat} {p : Pl} (hc : (Ld.at E e).c = (c : Int)) (hp : P[c]? = some p) : Calls Try.prog 47 #[.pointer (some ⟨q, 0, none⟩), .int .i64 e, .bool s] w fun r w' => r = .returned (.pointer (some ⟨p.1, 0, none⟩)) ∧ Below w.heap.size w w' := by
  have HE := hide (end_any h.lg e)
  have hq := h.ql
  have c0 := h.c0
  have c1 := h.c1
  obtain ⟨g, cp, rfl, k1, -, hcl⟩ := own_one h.oc (c := c) (u := .pointer (some ⟨p.1, 0, none⟩)) (by simp [pcl, hp])
  have hg := World.block_lt_of_cell? _ _ k1
  obtain ⟨k, x, -, -, ha, hxs, hxh, -⟩ := Bk.there_some hy
  have hhas : Ld.has E e = true := by
    unfold Bk.there at hy
    cases hh : Ld.has E e with
    | true => rfl
    | false => rw [hh] at hy; cases hy
  rw [ha, hhas] at HE
  rw [ha] at hc
  obtain ⟨xc, xs, xh, xd⟩ := x
  simp only at hc hxs hxh HE
  subst hc hxs
  have d1 : (xh == -2) = false := beq_eq_false_iff_ne.2 hxh
  clear h hy ha hhas hxh hp
  cases xs with
  | false =>
    go_enter Try.func47, Try.ntmps47
    go_wp2_with fail
    refine HE.out.mono ?_
    rintro e w1 ⟨rfl, hb⟩
    have hb2 : Below w.heap.size w (w1.alloc (.cells #[.int .i64 (c : Int), .bool false, .int .i64 xh, .int .i64 xd] 48)) := hb.alloc hb.size _
    have c1 := bsome hb2 c1
    have k1 := bsome hb2 k1
    have HB := hide hb2
    clear hb hb2
    go_wp2
    go_quiet (fail)
    go_wp2
    go_quiet (fail)
    go_wp2
    go_ret
    exact ⟨rfl, below_drewN (below_drewN HB.out _) _⟩
  | true =>
    go_enter Try.func47, Try.ntmps47
    go_wp2_with fail
    refine HE.out.mono ?_
    rintro e w1 ⟨rfl, hb⟩
    have hb2 : Below w.heap.size w (w1.alloc (.cells #[.int .i64 (c : Int), .bool true, .int .i64 xh, .int .i64 xd] 48)) := hb.alloc hb.size _
    have c1 := bsome hb2 c1
    have k1 := bsome hb2 k1
    have HB := hide hb2
    clear hb hb2
    go_wp2
    go_quiet (fail)
    go_wp2
    go_quiet (fail)
    go_wp2
    go_ret
    exact ⟨rfl, below_drewN (below_drewN HB.out _) _⟩
theorem sendTo_no (h : ST B w q pl ve vc P E S N I G) (e : Int) (hn : Bk.there E e true = false) : Calls Try.prog 21 #[.pointer (some ⟨q, 0, none⟩), .int .i64 e] w fun r w' => r = .returned (.pointer none) ∧ Below w.heap.size w w' := by
  have HC := hide (chanOf_no h e true hn)
  clear h hn
  go_enter Try.func21, Try.ntmps21
  go_wp2_with fail
  refine HC.out.mono ?_
  rintro e w1 ⟨rfl, hb⟩
  go_wp2
  go_ret
  exact ⟨rfl, hb⟩
theorem sendTo_yes (h : ST B w q pl ve vc P E S N I G) (e : Int) (hy : Bk.there E e true = true) {c : Nat} {p : Pl} (hc : (Ld.at E e).c = (c : Int)) (hp : P[c]? = some p) : Calls Try.prog 21 #[.pointer (some ⟨q, 0, none⟩), .int .i64 e] w fun r w' => r = .returned (.pointer (some ⟨p.1, 0, none⟩)) ∧ Below w.heap.size w w' := by
  have HC := hide (chanOf_yes h e true hy hc hp)
  clear h hc hp hy
  go_enter Try.func21, Try.ntmps21
  go_wp2_with fail
  refine HC.out.mono ?_
  rintro e w1 ⟨rfl, hb⟩
  go_wp2
  go_ret
  exact ⟨rfl, hb⟩
theorem recvFr_no (h : ST B w q pl ve vc P E S N I G) (e : Int) (hn : Bk.there E e false = false) : Calls Try.prog 23 #[.pointer (some ⟨q, 0, none⟩), .int .i64 e] w fun r w' => r = .returned (.pointer none) ∧ Below w.heap.size w w' := by
  have HC := hide (chanOf_no h e false hn)
  clear h hn
  go_enter Try.func23, Try.ntmps23
  go_wp2_with fail
  refine HC.out.mono ?_
  rintro e w1 ⟨rfl, hb⟩
  go_wp2
  go_ret
  exact ⟨rfl, hb⟩
theorem recvFr_yes (h : ST B w q pl ve vc P E S N I G) (e : Int) (hy : Bk.there E e false = true) {c : Nat} {p : Pl} (hc : (Ld.at E e).c = (c : Int)) (hp : P[c]? = some p) : Calls Try.prog 23 #[.pointer (some ⟨q, 0, none⟩), .int .i64 e] w fun r w' => r = .returned (.pointer (some ⟨p.1, 0, none⟩)) ∧ Below w.heap.size w w' := by
  have HC := hide (chanOf_yes h e false hy hc hp)
  clear h hc hp hy
  go_enter Try.func23, Try.ntmps23
  go_wp2_with fail
  refine HC.out.mono ?_
  rintro e w1 ⟨rfl, hb⟩
  go_wp2
  go_ret
  exact ⟨rfl, hb⟩
/-- May it be sent? -/
def Bk.may (E : List En) (e en : Int) : Bool := Ld.has E en && (decide (0 ≤ (Ld.at E en).h) && !(en == e))
theorem maySend_num (w : World) (q : Nat) (e n en : Int) (hen : en < 0) : Calls Try.prog 41 #[.pointer (some ⟨q, 0, none⟩), .int .i64 e, .agg #[.int .i64 n, .int .i64 en]] w fun r w' => r = .returned (.bool true) ∧ Below w.heap.size w w' := by
  have HI := hide (isEnd_any n en)
  rw [decide_eq_false (by omega : ¬ 0 ≤ en)] at HI
  have hb0 : Below w.heap.size w (w.alloc (.cells #[.int .i64 n, .int .i64 en] 59)) := (Below.refl _ _).alloc (Nat.le_refl _) _
  go_enter Try.func41, Try.ntmps41
  go_wp2_with fail
  refine (HI.out _).mono ?_
  rintro e w1 ⟨rfl, hb⟩
  have HB := hide (btrans hb0 hb)
  clear hb hb0
  go_wp2
  go_ret
  exact ⟨rfl, HB.out⟩
theorem new4_any (w1 : World) (u0 u1 u2 u3 : Value) (t : TypeId) (X : World) (hX : Below (w1.alloc (.cells #[u0, u1, u2, u3] t)).drew.heap.size (w1.alloc (.cells #[u0, u1, u2, u3] t)).drew X) : (X.cell? ⟨w1.heap.size, 0, none⟩ = some u0 ∧ X.cell? ⟨w1.heap.size, 1, none⟩ = some u1 ∧ X.cell? ⟨w1.heap.size, 2, none⟩ = some u2 ∧ X.cell? ⟨w1.heap.size, 3, none⟩ = some u3) ∧ (X.frozen? ⟨w1.heap.size, 0, none⟩ = false ∧ X.frozen? ⟨w1.heap.size, 1, none⟩ = false ∧ X.frozen? ⟨w1.heap.size, 2, none⟩ = false ∧ X.frozen? ⟨w1.heap.size, 3, none⟩ = false) := by
  have hs : w1.heap.size < (w1.alloc (.cells #[u0, u1, u2, u3] t)).drew.heap.size := by simp
  refine ⟨⟨bsome hX (by simp [go_sem]), bsome hX (by simp [go_sem]), bsome hX (by simp [go_sem]), bsome hX (by simp [go_sem])⟩, ?_, ?_, ?_, ?_⟩
  · exact (hX.frozen (p := ⟨w1.heap.size, 0, none⟩) hs).trans (by simp [go_sem])
  · exact (hX.frozen (p := ⟨w1.heap.size, 1, none⟩) hs).trans (by simp [go_sem])
  · exact (hX.frozen (p := ⟨w1.heap.size, 2, none⟩) hs).trans (by simp [go_sem])
  · exact (hX.frozen (p := ⟨w1.heap.size, 3, none⟩) hs).trans (by simp [go_sem])
theorem maySend_end (h : ST B w q pl ve vc P E S N I G) (e n en : Int) (hen : 0 ≤ en) : Calls Try.prog 41 #[.pointer (some ⟨q, 0, none⟩), .int .i64 e, .agg #[.int .i64 n, .int .i64 en]] w fun r w' => r = .returned (.bool (Bk.may E e en)) ∧ Below w.heap.size w w' := by
  have HI := hide (isEnd_any n en)
  rw [decide_eq_true hen] at HI
  have hb0 : Below w.heap.size w (w.alloc (.cells #[.int .i64 n, .int .i64 en] 59)) := (Below.refl _ _).alloc (Nat.le_refl _) _
  have HE : Hid (∀ X, Below w.heap.size w X → Calls Try.prog 15 #[.pointer (some ⟨pl, 0, none⟩), .int .i64 en] X fun r w' => ∃ u, r = .returned u ∧ (u = .tuple #[.agg #[.int .i64 (Ld.at E en).c, .bool (Ld.at E en).s, .int .i64 (Ld.at E en).h, .int .i64 (Ld.at E en).d], .bool (Ld.has E en)] ∧ Below X.heap.size X w')) := hide (fun X hX => (end_any (h.keep hX).lg en).mono (fun e w' h => ⟨_, h.1, rfl, h.2⟩))
  have HC : Hid (∀ X, Below w.heap.size w X → X.cell? ⟨q, 0, none⟩ = some (.pointer (some ⟨pl, 0, none⟩))) := hide (fun X hX => bsome hX h.c0)
  have HTK := hide (isTask_any (Ld.at E en).h)
  obtain ⟨m, hm⟩ : ∃ m, Bk.may E e en = m := ⟨_, rfl⟩
  rw [hm]
  unfold Bk.may at hm
  generalize Ld.has E en = hs at *
  generalize Ld.at E en = y at *
  obtain ⟨yc, ys, yh, yd⟩ := y
  simp only at HE HTK hm
  clear h hen
  go_enter Try.func41, Try.ntmps41
  go_wp2_with fail
  refine (HI.out _).mono ?_
  rintro e w1 ⟨rfl, hb⟩
  have y1 : w1.cell? ⟨w.heap.size, 1, none⟩ = some (.int .i64 en) := bsome hb (by simp [go_sem])
  have HB := hide (btrans hb0 hb)
  have hws : w.heap.size < w1.heap.size := World.block_lt_of_cell? _ _ y1
  clear hb hb0
  have HS : Hid (∀ X, Below w1.heap.size w1 X → X.cell? ⟨q, 0, none⟩ = some (.pointer (some ⟨pl, 0, none⟩)) ∧ X.cell? ⟨w.heap.size, 1, none⟩ = some (.int .i64 en)) := hide (fun X hX => ⟨HC.out _ (HB.out.trans (hX.mono HB.out.size)), bsome hX y1⟩)
  have HE1 : Hid (∀ X, Below w1.heap.size w1 X → Calls Try.prog 15 #[.pointer (some ⟨pl, 0, none⟩), .int .i64 en] X fun r w' => ∃ u, r = .returned u ∧ (u = .tuple #[.agg #[.int .i64 yc, .bool ys, .int .i64 yh, .int .i64 yd], .bool hs] ∧ Below X.heap.size X w')) := hide (fun X hX => HE.out X (HB.out.trans (hX.mono HB.out.size)))
  have HA : Hid (∀ X (o : Obj), Below w1.heap.size w1 X → (X.alloc o).cell? ⟨q, 0, none⟩ = some (.pointer (some ⟨pl, 0, none⟩)) ∧ (X.alloc o).cell? ⟨w.heap.size, 1, none⟩ = some (.int .i64 en)) := hide (fun X o hX => HS.out _ (hX.alloc hX.size o))
  have hqw : q < w1.heap.size := World.block_lt_of_cell? _ _ (HS.out _ (Below.refl _ _)).1
  have yq := (HS.out _ (Below.refl _ _)).1
  have nn1 := World.new_ne w1 ⟨q, 0, none⟩ yq
  have nn2 := World.new_ne w1 ⟨w.heap.size, 1, none⟩ y1
  have HD : Hid (∀ o : Obj, (w1.alloc o).drew.cell? ⟨q, 0, none⟩ = some (.pointer (some ⟨pl, 0, none⟩)) ∧ (w1.alloc o).drew.cell? ⟨w.heap.size, 1, none⟩ = some (.int .i64 en)) := hide (fun o => HS.out _ (below_drewN ((Below.refl _ _).alloc (Nat.le_refl _) o) 1))
  have HE2 : Hid (∀ o : Obj, Calls Try.prog 15 #[.pointer (some ⟨pl, 0, none⟩), .int .i64 en] (w1.alloc o).drew fun r w' => ∃ u, r = .returned u ∧ (u = .tuple #[.agg #[.int .i64 yc, .bool ys, .int .i64 yh, .int .i64 yd], .bool hs] ∧ Below (w1.alloc o).drew.heap.size (w1.alloc o).drew w')) := hide (fun o => HE1.out _ (below_drewN ((Below.refl _ _).alloc (Nat.le_refl _) o) 1))
  have HN : Hid (∀ X, Below (w1.alloc (.cells #[.int .i64 0, .bool false, .int .i64 0, .int .i64 0] 48)).drew.heap.size (w1.alloc (.cells #[.int .i64 0, .bool false, .int .i64 0, .int .i64 0] 48)).drew X → (X.cell? ⟨w1.heap.size, 0, none⟩ = some (.int .i64 0) ∧ X.cell? ⟨w1.heap.size, 1, none⟩ = some (.bool false) ∧ X.cell? ⟨w1.heap.size, 2, none⟩ = some (.int .i64 0) ∧ X.cell? ⟨w1.heap.size, 3, none⟩ = some (.int .i64 0)) ∧ (X.frozen? ⟨w1.heap.size, 0, none⟩ = false ∧ X.frozen? ⟨w1.heap.size, 1, none⟩ = false ∧ X.frozen? ⟨w1.heap.size, 2, none⟩ = false ∧ X.frozen? ⟨w1.heap.size, 3, none⟩ = false)) := hide (fun X hX => new4_any w1 _ _ _ _ _ X hX)
  have HT : Hid (∀ X (u0 u1 u2 u3 : Value), Below w1.heap.size w1 X → ((((X.setCell ⟨w1.heap.size, 0, none⟩ u0).setCell ⟨w1.heap.size, 1, none⟩ u1).setCell ⟨w1.heap.size, 2, none⟩ u2).setCell ⟨w1.heap.size, 3, none⟩ u3).cell? ⟨q, 0, none⟩ = some (.pointer (some ⟨pl, 0, none⟩)) ∧ ((((X.setCell ⟨w1.heap.size, 0, none⟩ u0).setCell ⟨w1.heap.size, 1, none⟩ u1).setCell ⟨w1.heap.size, 2, none⟩ u2).setCell ⟨w1.heap.size, 3, none⟩ u3).cell? ⟨w.heap.size, 1, none⟩ = some (.int .i64 en)) := hide (fun X u0 u1 u2 u3 hX => HS.out _ (bset4 hX (Nat.le_refl _) u0 u1 u2 u3))
  have kc : Hid (Below w1.heap.size w1 w1.drew) := hide (below_drewN (Below.refl _ _) 1)
  clear HE HI HC
  have HM := hide hm
  clear hm
  go_wp2
  go_region_held3 (fun w' => w'.cell? ⟨q, 0, none⟩ = some (.pointer (some ⟨pl, 0, none⟩)) ∧ w'.cell? ⟨w.heap.size, 1, none⟩ = some (.int .i64 en)) ((first | (with_reducible exact HS.out _ kc.out) | (with_reducible exact HD.out _) | (with_reducible exact HA.out _ _ kc.out) | (with_reducible exact HT.out _ _ _ _ _ kc.out) | go_keep)) ((first
    | (refine step_call_w (by rfl) 15 #[.pointer (some ⟨pl, 0, none⟩), .int .i64 en] ?_ (HE1.out _ kc.out) ?_; (focus (go_simp; done)); rintro v7 w7 ⟨rfl, hb7⟩; have kc := hide (kc.out.trans (hb7.mono kc.out.size)); clear hb7)
    | (refine step_call_w (by rfl) 15 #[.pointer (some ⟨pl, 0, none⟩), .int .i64 en] ?_ (HE2.out _) ?_; (focus (go_simp; done)); rintro v7 w7 ⟨rfl, hb7⟩; obtain ⟨⟨za0, za1, za2, za3⟩, zb0, zb1, zb2, zb3⟩ := HN.out _ hb7; have kc := hide ((below_drewN ((Below.refl w1.heap.size w1).alloc (Nat.le_refl _) _) 1).trans (hb7.mono (below_drewN ((Below.refl w1.heap.size w1).alloc (Nat.le_refl _) _) 1).size)); clear hb7)))
  · have HBF := hide (HB.out.trans ((kc.out.alloc kc.out.size (.cells #[.int .i64 yc, .bool ys, .int .i64 yh, .int .i64 yd] 48)).mono HB.out.size))
    have z2 := (show (w7.alloc (.cells #[.int .i64 yc, .bool ys, .int .i64 yh, .int .i64 yd] 48)).cell? ⟨w7.heap.size, 2, none⟩ = some (.int .i64 yh) by simp [go_sem])
    have z1 := bsome (kc.out.alloc kc.out.size (.cells #[.int .i64 yc, .bool ys, .int .i64 yh, .int .i64 yd] 48)) y1
    clear HN HT HD HE2 HA HE1 HS nn1 nn2 y1 yq kc HB
    have hm := HM.out
    clear HM
    cases hs with
    | false =>
      go_wp2
      go_ret
      exact ⟨by rw [← hm]; rfl, HBF.out⟩
    | true =>
      by_cases hy : 0 ≤ yh
      · rw [decide_eq_true hy] at HTK hm
        have hm2 : (!(en == e)) = m := by rw [← hm]; rfl
        clear hy hm
        go_wp2_with fail
        refine (HTK.out _).mono ?_
        rintro e1 w9 ⟨rfl, rfl⟩
        go_wp2
        go_ret
        exact ⟨by rw [← hm2]; rfl, HBF.out⟩
      · rw [decide_eq_false hy] at HTK hm
        clear hy
        go_wp2_with fail
        refine (HTK.out _).mono ?_
        rintro e1 w9 ⟨rfl, rfl⟩
        go_wp2
        go_ret
        exact ⟨by rw [← hm]; rfl, HBF.out⟩
  · have HBF := hide (HB.out.trans ((bset4 kc.out (Nat.le_refl _) (.int .i64 yc) (.bool ys) (.int .i64 yh) (.int .i64 yd)).mono HB.out.size))
    have z2 := (show ((((w7.setCell ⟨w1.heap.size, 0, none⟩ (.int .i64 yc)).setCell ⟨w1.heap.size, 1, none⟩ (.bool ys)).setCell ⟨w1.heap.size, 2, none⟩ (.int .i64 yh)).setCell ⟨w1.heap.size, 3, none⟩ (.int .i64 yd)).cell? ⟨w1.heap.size, 2, none⟩ = some (.int .i64 yh) by simp [go_sem, za2])
    have z1 := bsome (bset4 kc.out (Nat.le_refl _) (.int .i64 yc) (.bool ys) (.int .i64 yh) (.int .i64 yd)) y1
    clear HN HT HD HE2 HA HE1 HS nn1 nn2 y1 yq kc HB
    have hm := HM.out
    clear HM
    cases hs with
    | false =>
      go_wp2
      go_ret
      exact ⟨by rw [← hm]; rfl, HBF.out⟩
    | true =>
      by_cases hy : 0 ≤ yh
      · rw [decide_eq_true hy] at HTK hm
        have hm2 : (!(en == e)) = m := by rw [← hm]; rfl
        clear hy hm
        go_wp2_with fail
        refine (HTK.out _).mono ?_
        rintro e1 w9 ⟨rfl, rfl⟩
        go_wp2
        go_ret
        exact ⟨by rw [← hm2]; rfl, HBF.out⟩
      · rw [decide_eq_false hy] at HTK hm
        clear hy
        go_wp2_with fail
        refine (HTK.out _).mono ?_
        rintro e1 w9 ⟨rfl, rfl⟩
        go_wp2
        go_ret
        exact ⟨by rw [← hm]; rfl, HBF.out⟩
end
end Go.Proofs.Ytbepaimbbclejaa

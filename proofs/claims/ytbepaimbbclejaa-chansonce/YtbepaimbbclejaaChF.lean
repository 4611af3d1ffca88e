import Derived.Test.YtbepaimbbclejaaChDe
/- The document's book: Make. -/
namespace Go.Proofs.Ytbepaimbbclejaa
open Go.RowKit

theorem Try.infoIs : (Try.prog.info? 52).map (fun i => (i.zero, i.size, i.bytes)) = some (some (.slice none 0 0), 1, 24) := by kernel_rfl
theorem Try.infoBo : (Try.prog.info? 4).map (fun i => (i.zero, i.size, i.bytes)) = some (some (.bool false), 1, 1) := by kernel_rfl
theorem cell8new (w : World) (u0 u1 u2 u3 u4 u5 u6 u7 : Value) (t : TypeId) : ∀ (j : Nat) u, [u0, u1, u2, u3, u4, u5, u6, u7][j]? = some u → (w.alloc (.cells #[u0, u1, u2, u3, u4, u5, u6, u7] t)).cell? ((⟨w.heap.size, 0, none⟩ : Addr).add j) = some u := by
  intro j u hu
  match j, hu with
  | 0, hu => simp at hu; subst hu; simp [go_sem, Addr.add]
  | 1, hu => simp at hu; subst hu; simp [go_sem, Addr.add]
  | 2, hu => simp at hu; subst hu; simp [go_sem, Addr.add]
  | 3, hu => simp at hu; subst hu; simp [go_sem, Addr.add]
  | 4, hu => simp at hu; subst hu; simp [go_sem, Addr.add]
  | 5, hu => simp at hu; subst hu; simp [go_sem, Addr.add]
  | 6, hu => simp at hu; subst hu; simp [go_sem, Addr.add]
  | 7, hu => simp at hu; subst hu; simp [go_sem, Addr.add]
theorem kx_grown {W W7 : World} {r : Option Nat} {o1 : Obj} (hg : (W.alloc o1).grownBy W7 r) : Kx (fun b => some b ≠ r) W W7 := ((Kx.refl _ _).alloc _).grown hg (fun _ hk => .inr (fun e => e hk.symm))
section
variable {B : Nat} {w : World} {q : Nat} {ve vs vi vg : Value} {iv : List Value} {E : List En} {S : List Int} {I : List (List (Int × Int))} {G : List Bool}
theorem BK.qn (h : BK B w q ve vs vi vg iv E S I G) : (some q ≠ ve.ownBlock ∧ some q ≠ vs.ownBlock ∧ some q ≠ vi.ownBlock ∧ some q ≠ vg.ownBlock) :=
  ⟨fun e => absurd (h.dj 0 1 q rfl (show some ve.ownBlock = _ by rw [← e])) (by decide), fun e => absurd (h.dj 0 2 q rfl (show some vs.ownBlock = _ by rw [← e])) (by decide), fun e => absurd (h.dj 0 3 q rfl (show some vi.ownBlock = _ by rw [← e])) (by decide), fun e => absurd (h.dj 0 4 q rfl (show some vg.ownBlock = _ by rw [← e])) (by decide)⟩
theorem BK.ql (h : BK B w q ve vs vi vg iv E S I G) : q < w.heap.size := World.block_lt_of_cell? _ _ h.c0
end
set_option maxRecDepth 100000
set_option maxHeartbeats 2000000
theorem bmake_any {B : Nat} {w : World} {q : Nat} {ve vs vi vg : Value} {iv : List Value} {E : List En} {S : List Int} {I : List (List (Int × Int))} {G : List Bool} (h : BK B w q ve vs vi vg iv E S I G) (o : BOk E S I G) (sl tk : Int) (hB : B ≤ w.heap.size) :
    Calls Try.prog 27 #[.pointer (some ⟨q, 0, none⟩), .int .i64 sl, .int .i64 tk] w fun r w' => if tk < 0 then r = .returned (.tuple #[.int .i64 (-1), .int .i64 (-1)]) ∧ w' = w else r = .returned (.tuple #[.int .i64 (E.length : Int), .int .i64 ((E.length + 1 : Nat) : Int)]) ∧ ∃ ve' vs' vi' vg', BK B w' q ve' vs' vi' vg' (iv ++ [.slice none 0 0]) (E ++ [⟨S.length, true, tk, 0⟩, ⟨S.length, false, tk, 0⟩]) (S ++ [max sl 0]) (I ++ [[]]) (G ++ [false]) ∧ BC w w' (obs q ve vs vi vg iv) (obs q ve' vs' vi' vg' (iv ++ [.slice none 0 0])) := by
  by_cases ht : tk < 0
  · have d0 : decide (tk < 0) = true := decide_eq_true ht
    simp only [if_pos ht]
    clear ht
    go_enter Try.func27, Try.ntmps27
    go_wp2
    exact bodyPost_ret (v := .tuple #[.int .i64 (-1), .int .i64 (-1)]) (by simp [results, Try.results27, go_sem]) rfl ⟨rfl, rfl⟩
  · have d0 : decide (tk < 0) = false := decide_eq_false ht
    simp only [if_neg ht]
    clear ht
    obtain ⟨i3, hi3, hz30, hz31, hz32⟩ := info_parts Try.info3
    obtain ⟨ii, hii, hzi0, hzi1, hzi2⟩ := info_parts Try.infoIs
    obtain ⟨ib, hib, hzb0, hzb1, hzb2⟩ := info_parts Try.infoBo
    obtain ⟨ie, hie, hze0, hze1, hze2⟩ := info_parts Try.infoEn
    obtain ⟨asl, cs, rfl⟩ := own_slicei h.os
    obtain ⟨ai, ci, rfl⟩ := own_slicei h.oi
    obtain ⟨ag, cg, rfl⟩ := own_slicei h.og
    obtain ⟨ae, ce, rfl⟩ := own_slicei h.oe
    have hlS := o.ls
    have hlI : I.length ≤ 100000 := by rw [o.lI]; exact hlS
    have hlG : G.length ≤ 100000 := by rw [o.lG]; exact hlS
    have hlE := o.le
    obtain ⟨mx, hmx⟩ : ∃ mx, max sl 0 = mx := ⟨_, rfl⟩
    have hmx' : (if sl < 0 then (0 : Int) else sl) = mx := by rw [← hmx]; split <;> omega
    rw [hmx]
    have HH := hide h
    have HMX := hide hmx
    have q0 := h.c0
    have q1 := h.c1
    have q2 := h.c2
    have q3 := h.c3
    have t0 := h.t 0
    have t1 := h.t 1
    have t2 := h.t 2
    have t3 := h.t 3
    have hq := h.ql
    clear h o hmx
    go_enter Try.func27, Try.ntmps27
    go_wp2_with (at_builtin; refine wpList_append_lies _ rfl _ _ 28 rfl B 3 i3 (.int .i64 0) 1 8 Try.underlying28 hi3 hz30 hz31 hz32 rfl (by decide) _ _ _ rfl (by exact HH.out.os.alloc _) ⟨w.heap.size, 0, none⟩ 1 1 [.int .i64 mx] rfl rfl (cell_one_new w _ 3) (by intro u hu; simp at hu; subst hu; rfl) (by decide) (by unfold maxLen; omega) (by omega) (by simp; omega) _ rfl ?_)
    intro g1 cap1 w1 hown hgrow hat hlt
    have HK1 : Hid (Kx (fun b => some b ≠ (Value.slice asl S.length cs).ownBlock) w w1) := hide (kx_grown hgrow)
    have HV1 : Hid ((Value.slice (some ⟨g1, 0, none⟩) (S.length + 1) cap1).ownBlock = (Value.slice asl S.length cs).ownBlock ∨ ∃ b, (Value.slice (some ⟨g1, 0, none⟩) (S.length + 1) cap1).ownBlock = some b ∧ w.heap.size ≤ b) := hide (hat.imp (fun e => e.symm) (fun e => ⟨g1, rfl, by rw [e]; simp⟩))
    have HB1 := hide (HH.out.pushS (S' := S ++ [mx]) HK1.out (by rw [List.map_append, List.length_append]; exact hown) HV1.out)
    have p0 := HK1.out.cell q0 HH.out.qn.2.1
    have p1 := HK1.out.cell q1 HH.out.qn.2.1
    have p2 := HK1.out.cell q2 HH.out.qn.2.1
    have p3 := HK1.out.cell q3 HH.out.qn.2.1
    have f1 : w1.frozen? ⟨q, 1, none⟩ = false := (HK1.out.frozen (p := ⟨q, 1, none⟩) hq HH.out.qn.2.1).trans t1
    have f2 : w1.frozen? ⟨q, 2, none⟩ = false := (HK1.out.frozen (p := ⟨q, 2, none⟩) hq HH.out.qn.2.1).trans t2
    have f3 : w1.frozen? ⟨q, 3, none⟩ = false := (HK1.out.frozen (p := ⟨q, 3, none⟩) hq HH.out.qn.2.1).trans t3
    have f0 : w1.frozen? ⟨q, 0, none⟩ = false := (HK1.out.frozen (p := ⟨q, 0, none⟩) hq HH.out.qn.2.1).trans t0
    have hs1 := HK1.out.size
    clear hown hgrow hat hlt q0 q1 q2 q3 t0 t1 t2 t3
    have hq1 : q < w1.heap.size := by omega
    have hw1 : B ≤ w1.heap.size := by omega
    go_wp2_with (at_builtin; refine wpList_append_lies _ rfl _ _ 29 rfl B 52 ii (.slice none 0 0) 1 24 Try.underlying29 hii hzi0 hzi1 hzi2 rfl (by decide) _ _ _ rfl (by exact HB1.out.1.oi.alloc _) ⟨w1.heap.size, 0, none⟩ 1 1 [.slice none 0 0] rfl rfl (by simpa using cell_one_new (w1.setCell ⟨q, 1, none⟩ (.slice (some ⟨g1, 0, none⟩) (S.length + 1) cap1)) (.slice none 0 0) 52) (by intro u hu; simp at hu; subst hu; rfl) (by decide) (by unfold maxLen; omega) (by omega) (by simp; omega) _ rfl ?_)
    intro g2 cap2 w2 hown hgrow hat hlt
    clear p0 p1 p2 p3 f0 f1 f2 f3
    have HK2 : Hid (Kx (fun b => some b ≠ (Value.slice ai I.length ci).ownBlock) (w1.setCell ⟨q, 1, none⟩ (.slice (some ⟨g1, 0, none⟩) (S.length + 1) cap1)) w2) := hide (kx_grown hgrow)
    have HV2 : Hid ((Value.slice (some ⟨g2, 0, none⟩) (I.length + 1) cap2).ownBlock = (Value.slice ai I.length ci).ownBlock ∨ ∃ b, (Value.slice (some ⟨g2, 0, none⟩) (I.length + 1) cap2).ownBlock = some b ∧ (w1.setCell ⟨q, 1, none⟩ (.slice (some ⟨g1, 0, none⟩) (S.length + 1) cap1)).heap.size ≤ b) := hide (hat.imp (fun e => e.symm) (fun e => ⟨g2, rfl, by rw [e]; simp⟩))
    have HB2 := hide (HB1.out.1.pushI HK2.out (by rw [List.length_append]; exact hown) HV2.out)
    have p0 : w2.cell? ⟨q, 0, none⟩ = some _ := HK2.out.cell HB1.out.1.c0 HB1.out.1.qn.2.2.1
    have p1 : w2.cell? ⟨q, 1, none⟩ = some _ := HK2.out.cell HB1.out.1.c1 HB1.out.1.qn.2.2.1
    have p2 : w2.cell? ⟨q, 2, none⟩ = some _ := HK2.out.cell HB1.out.1.c2 HB1.out.1.qn.2.2.1
    have p3 : w2.cell? ⟨q, 3, none⟩ = some _ := HK2.out.cell HB1.out.1.c3 HB1.out.1.qn.2.2.1
    have f0 : w2.frozen? ⟨q, 0, none⟩ = false := (HK2.out.frozen (p := ⟨q, 0, none⟩) HB1.out.1.ql HB1.out.1.qn.2.2.1).trans (HB1.out.1.t 0)
    have f2 : w2.frozen? ⟨q, 2, none⟩ = false := (HK2.out.frozen (p := ⟨q, 2, none⟩) HB1.out.1.ql HB1.out.1.qn.2.2.1).trans (HB1.out.1.t 2)
    have f3 : w2.frozen? ⟨q, 3, none⟩ = false := (HK2.out.frozen (p := ⟨q, 3, none⟩) HB1.out.1.ql HB1.out.1.qn.2.2.1).trans (HB1.out.1.t 3)
    have hs2 : w1.heap.size ≤ w2.heap.size := by have := HK2.out.size; simpa using this
    clear hown hgrow hat hlt
    have hq2 : q < w2.heap.size := by omega
    have hw2 : B ≤ w2.heap.size := by omega
    go_wp2_with (at_builtin; refine wpList_append_lies _ rfl _ _ 30 rfl B 4 ib (.bool false) 1 1 Try.underlying30 hib hzb0 hzb1 hzb2 rfl (by decide) _ _ _ rfl (by exact HB2.out.1.og.alloc _) ⟨w2.heap.size, 0, none⟩ 1 1 [.bool false] rfl rfl (by simpa using cell_one_new (w2.setCell ⟨q, 2, none⟩ (.slice (some ⟨g2, 0, none⟩) (I.length + 1) cap2)) (.bool false) 4) (by intro u hu; simp at hu; subst hu; rfl) (by decide) (by unfold maxLen; omega) (by omega) (by simp; omega) _ rfl ?_)
    intro g3 cap3 w3 hown hgrow hat hlt
    clear p0 p1 p2 p3 f0 f2 f3
    have HK3 : Hid (Kx (fun b => some b ≠ (Value.slice ag G.length cg).ownBlock) (w2.setCell ⟨q, 2, none⟩ (.slice (some ⟨g2, 0, none⟩) (I.length + 1) cap2)) w3) := hide (kx_grown hgrow)
    have HV3 : Hid ((Value.slice (some ⟨g3, 0, none⟩) (G.length + 1) cap3).ownBlock = (Value.slice ag G.length cg).ownBlock ∨ ∃ b, (Value.slice (some ⟨g3, 0, none⟩) (G.length + 1) cap3).ownBlock = some b ∧ (w2.setCell ⟨q, 2, none⟩ (.slice (some ⟨g2, 0, none⟩) (I.length + 1) cap2)).heap.size ≤ b) := hide (hat.imp (fun e => e.symm) (fun e => ⟨g3, rfl, by rw [e]; simp⟩))
    have HB3 := hide (HB2.out.1.pushG (G' := G ++ [false]) HK3.out (by rw [List.map_append, List.length_append]; exact hown) HV3.out)
    have p0 : w3.cell? ⟨q, 0, none⟩ = some _ := HK3.out.cell HB2.out.1.c0 HB2.out.1.qn.2.2.2
    have p1 : w3.cell? ⟨q, 1, none⟩ = some _ := HK3.out.cell HB2.out.1.c1 HB2.out.1.qn.2.2.2
    have p2 : w3.cell? ⟨q, 2, none⟩ = some _ := HK3.out.cell HB2.out.1.c2 HB2.out.1.qn.2.2.2
    have p3 : w3.cell? ⟨q, 3, none⟩ = some _ := HK3.out.cell HB2.out.1.c3 HB2.out.1.qn.2.2.2
    have f0 : w3.frozen? ⟨q, 0, none⟩ = false := (HK3.out.frozen (p := ⟨q, 0, none⟩) HB2.out.1.ql HB2.out.1.qn.2.2.2).trans (HB2.out.1.t 0)
    have f3 : w3.frozen? ⟨q, 3, none⟩ = false := (HK3.out.frozen (p := ⟨q, 3, none⟩) HB2.out.1.ql HB2.out.1.qn.2.2.2).trans (HB2.out.1.t 3)
    have hs3 : w2.heap.size ≤ w3.heap.size := by have := HK3.out.size; simpa using this
    clear hown hgrow hat hlt
    have hq3 : q < w3.heap.size := by omega
    have hw3 : B ≤ w3.heap.size := by omega
    go_wp2_with (at_builtin; refine wpList_append_lies _ rfl _ _ 27 rfl B 48 ie (.agg #[.int .i64 0, .bool false, .int .i64 0, .int .i64 0]) 4 32 Try.underlying27 hie hze0 hze1 hze2 rfl (by decide) _ _ _ rfl (by exact HB3.out.1.oe.alloc _) ⟨w3.heap.size, 0, none⟩ 2 2 [.int .i64 (S.length : Int), .bool true, .int .i64 tk, .int .i64 0, .int .i64 (S.length : Int), .bool false, .int .i64 tk, .int .i64 0] rfl rfl (by simpa using cell8new (w3.setCell ⟨q, 3, none⟩ (.slice (some ⟨g3, 0, none⟩) (G.length + 1) cap3)) (.int .i64 (S.length : Int)) (.bool true) (.int .i64 tk) (.int .i64 0) (.int .i64 (S.length : Int)) (.bool false) (.int .i64 tk) (.int .i64 0) 48) (by intro u hu; simp at hu; rcases hu with rfl | rfl | rfl | rfl | rfl | rfl | rfl | rfl <;> rfl) (by decide) (by unfold maxLen; omega) (by omega) (by simp; omega) _ rfl ?_)
    intro g4 cap4 w4 hown hgrow hat hlt
    clear p0 p1 p2 p3 f0 f3
    have HK4 : Hid (Kx (fun b => some b ≠ (Value.slice ae E.length ce).ownBlock) (w3.setCell ⟨q, 3, none⟩ (.slice (some ⟨g3, 0, none⟩) (G.length + 1) cap3)) w4) := hide (kx_grown hgrow)
    have HV4 : Hid ((Value.slice (some ⟨g4, 0, none⟩) (E.length + 2) cap4).ownBlock = (Value.slice ae E.length ce).ownBlock ∨ ∃ b, (Value.slice (some ⟨g4, 0, none⟩) (E.length + 2) cap4).ownBlock = some b ∧ (w3.setCell ⟨q, 3, none⟩ (.slice (some ⟨g3, 0, none⟩) (G.length + 1) cap3)).heap.size ≤ b) := hide (hat.imp (fun e => e.symm) (fun e => ⟨g4, rfl, by rw [e]; simp⟩))
    have HB4 := hide (HB3.out.1.pushE (E' := E ++ [⟨S.length, true, tk, 0⟩, ⟨S.length, false, tk, 0⟩]) HK4.out (by rw [ecl_app, List.length_append]; exact hown) HV4.out)
    have p0 : w4.cell? ⟨q, 0, none⟩ = some _ := HK4.out.cell HB3.out.1.c0 HB3.out.1.qn.1
    have f0 : w4.frozen? ⟨q, 0, none⟩ = false := (HK4.out.frozen (p := ⟨q, 0, none⟩) HB3.out.1.ql HB3.out.1.qn.1).trans (HB3.out.1.t 0)
    have hs4 : w3.heap.size ≤ w4.heap.size := by have := HK4.out.size; simpa using this
    clear hown hgrow hat hlt
    have hq4 : q < w4.heap.size := by omega
    have hw4 : B ≤ w4.heap.size := by omega
    have HF := hide (((HB1.out.2.trans HB2.out.2).trans HB3.out.2).trans HB4.out.2)
    go_wp2
    go_quiet (fail)
    rename_i nq
    go_wp2
    refine bodyPost_ret (v := .tuple #[.int .i64 (E.length : Int), .int .i64 ((E.length + 1 : Nat) : Int)]) (by simp [results, Try.results27, go_sem]; omega) rfl ⟨rfl, _, _, _, _, HB4.out.1.keep (below_drewN (Below.refl _ _) nq), ?_⟩
    exact HF.out.trans (BC.of_below (below_drewN (Below.refl _ _) nq) _)
end Go.Proofs.Ytbepaimbbclejaa

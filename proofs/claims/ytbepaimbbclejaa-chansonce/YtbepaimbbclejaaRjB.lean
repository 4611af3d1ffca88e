import Derived.Test.YtbepaimbbclejaaRjA
/- Package ring, of items: Put, All, Clear. -/
namespace Go.Proofs.Ytbepaimbbclejaa
open Go.RowKit

theorem RBj.fC {w : World} {p s : Nat} {C : List (Int × Int)} {cv : Value} {f m : Nat} (h : RBj w p s C cv f m) : f < C.length ∨ C = [] := by
  rcases h.row with ⟨h1, -⟩ | ⟨g, -, -, -, h5⟩
  · exact .inr h1
  · exact .inl h5
theorem RBj.cvf {w : World} {p s : Nat} {C : List (Int × Int)} {cv : Value} {f m : Nat} (h : RBj w p s C cv f m) : ∃ a c, cv = .slice a C.length c := by
  rcases h.row with ⟨rfl, rfl, -⟩ | ⟨g, rfl, -⟩
  · exact ⟨none, 0, rfl⟩
  · exact ⟨_, _, rfl⟩
set_option maxRecDepth 100000 in
set_option maxHeartbeats 1000000 in
/-- More cells. -/
theorem widenj {w : World} {p s : Nat} {C : List (Int × Int)} {cv : Value} {f m : Nat} (h1 : RBj w p s C cv f m) (hC : C.length ≤ 1000) (hs : s = 0 ∨ C.length < s) : Calls Try.prog 55 #[.pointer (some ⟨p, 0, none⟩)] w fun e w' => e = .returned (.tuple #[]) ∧ ∃ n, C.length < n ∧ n ≤ 2000 ∧ (s = 0 ∨ n ≤ s) ∧ RBj w' p s (rowOf (0, 0) C f n) (.slice (some ⟨w.heap.size, 0, none⟩) n n) 0 m ∧ Kx (fun b => b ≠ p) w w' := by
  obtain ⟨a, c, rfl⟩ := h1.cvf
  have c0 := h1.c0
  have c1 := h1.c1
  have H1 := hide h1
  have HR : Hid (∀ (x : Int) (n : Nat), x = (n : Int) → n ≤ 4000 → Calls Try.prog 57 #[.pointer (some ⟨p, 0, none⟩), .int .i64 x] w fun e w' => e = .returned (.slice (some ⟨w.heap.size, 0, none⟩) n n) ∧ w'.heap[w.heap.size]? = some (.cells (icl (rowOf (0, 0) C f n)).toArray 59 (0, 0)) ∧ Below w.heap.size w w') := hide (fun x n hx hn => by
    rw [hx]
    exact rowj h1 (by omega) n hn)
  have HE : Hid (∀ (n : Nat) (w1 : World), C.length < n → n ≤ 2000 → (s = 0 ∨ n ≤ s) → w1.heap[w.heap.size]? = some (.cells (icl (rowOf (0, 0) C f n)).toArray 59 (0, 0)) → Below w.heap.size w w1 → ∃ n', C.length < n' ∧ n' ≤ 2000 ∧ (s = 0 ∨ n' ≤ s) ∧ RBj ((w1.setCell ⟨p, 1, none⟩ (.slice (some ⟨w.heap.size, 0, none⟩) n n)).setCell ⟨p, 2, none⟩ (.int .i64 0)) p s (rowOf (0, 0) C f n') (.slice (some ⟨w.heap.size, 0, none⟩) n' n') 0 m ∧ Kx (fun b => b ≠ p) w ((w1.setCell ⟨p, 1, none⟩ (.slice (some ⟨w.heap.size, 0, none⟩) n n)).setCell ⟨p, 2, none⟩ (.int .i64 0))) := hide (fun n w1 q1 q2 q3 q4 q5 => by
    have hl := rowOf_len (0, 0) C f n h1.fC
    have := (h1.below q5).setC q4 (by have := h1.lt; omega) (by omega)
    rw [hl] at this
    exact ⟨n, q1, q2, q3, this, (((Kx.of_below (X := fun b => b ≠ p) q5).set (p := ⟨p, 1, none⟩) (.inr (fun e => e rfl)) _).set (p := ⟨p, 2, none⟩) (.inr (fun e => e rfl)) _)⟩)
  clear h1
  go_enter Try.func55, Try.ntmps55
  go_wp2_with fail
  all_goals first
    | (with_reducible refine (HR.out (s : Int) s rfl (by omega)).mono ?_)
    | (with_reducible refine (HR.out (2 * (C.length : Int)) (2 * C.length) (by omega) (by omega)).mono ?_)
    | (with_reducible refine (HR.out 1 1 rfl (by omega)).mono ?_)
  all_goals
    rintro e w1 ⟨rfl, q4, q5⟩
    have hw := H1.out.below q5
    have d1 := hw.c1
    have d2 := hw.c2
    have f1 := hw.fz 1
    have f2 := hw.fz 2
    have HF := hide (HE.out _ w1 (by omega) (by omega) (by omega) q4 q5)
    clear hw q4 q5
    go_wp2
    go_end0
    exact ⟨rfl, HF.out⟩
theorem RBj.heap {w w' : World} {p s : Nat} {C : List (Int × Int)} {cv : Value} {f m : Nat} (h : RBj w p s C cv f m) (e : w'.heap = w.heap) : RBj w' p s C cv f m :=
  h.keep (by rw [e]) (fun _ _ => by rw [e])
theorem Kx.step {X Y : Nat → Prop} {a b c : World} (h : Kx X a b) (k : Kx Y b c) (hs : ∀ i, i < a.heap.size → X i → Y i) : Kx X a c :=
  ⟨k.os.trans h.os, k.tape.trans h.tape, k.output.trans h.output, Nat.le_trans h.size k.size, fun i hi hn => (k.block i (Nat.lt_of_lt_of_le hi h.size) (hs i hi hn)).trans (h.block i hi hn)⟩
theorem RJ.made {w : World} {p s : Nat} {C : List (Int × Int)} {cv : Value} {f m : Nat} {M : List (Int × Int)} (a : RBj w p s C cv f m) (b : m = M.length) (c : M.length ≤ C.length) (d : C.length ≤ 2000) (e : 0 < s → C.length ≤ s) (g : ∀ (k : Nat) x, M[k]? = some x → C[(f + k) % C.length]? = some x) : RJ w p cv s M :=
  ⟨C, f, by rw [← b]; exact a, c, d, e, g⟩
/-- A ring was changed: what else there was is as it was; its row is its own, new, or none. -/
structure RC (w w' : World) (p : Nat) (cv cv' : Value) : Prop where
  k : Kx (fun b => b ≠ p ∧ some b ≠ cv.ownBlock) w w'
  n : cv'.ownBlock = none ∨ cv'.ownBlock = cv.ownBlock ∨ ∃ b, cv'.ownBlock = some b ∧ w.heap.size ≤ b
/-- A ring with room for one more. -/
structure PSj (w : World) (p : Nat) (cv : Value) (s : Nat) (M : List (Int × Int)) (W : World) (C : List (Int × Int)) (g f : Nat) : Prop where
  rb : RBj W p s C (.slice (some ⟨g, 0, none⟩) C.length C.length) f M.length
  lt : M.length < C.length
  le : C.length ≤ 2000
  sl : 0 < s → C.length ≤ s
  he : ∀ (k : Nat) x, M[k]? = some x → C[(f + k) % C.length]? = some x
  kx : Kx (fun b => b ≠ p ∧ some b ≠ cv.ownBlock) w W
  fg : cv.ownBlock = some g ∨ w.heap.size ≤ g
theorem PSj.drew {w : World} {p : Nat} {cv : Value} {s : Nat} {M : List (Int × Int)} {W : World} {C : List (Int × Int)} {g f : Nat} (h : PSj w p cv s M W C g f) (n : Nat) : PSj w p cv s M (W.drewN n) C g f :=
  ⟨h.rb.heap rfl, h.lt, h.le, h.sl, h.he, h.kx.drewN n, h.fg⟩
theorem PSj.fin {w : World} {p : Nat} {cv : Value} {s : Nat} {M : List (Int × Int)} {W : World} {C : List (Int × Int)} {g f : Nat} (h : PSj w p cv s M W C g f) (x : Int × Int) (j : Nat) (hj : (f + M.length) % C.length = j) (m : Int) (hm : m = (M.length : Int) + 1) :
    ∃ cv', RJ (((W.setCell ⟨g, j * 2, none⟩ (.int .i64 x.1)).setCell ⟨g, j * 2 + 1, none⟩ (.int .i64 x.2)).setCell ⟨p, 3, none⟩ (.int .i64 m)) p cv' s (M ++ [x]) ∧ RC w (((W.setCell ⟨g, j * 2, none⟩ (.int .i64 x.1)).setCell ⟨g, j * 2 + 1, none⟩ (.int .i64 x.2)).setCell ⟨p, 3, none⟩ (.int .i64 m)) p cv cv' := by
  have hlt := h.lt
  have r1 := (h.rb.setX rfl j x).setM (M.length + 1)
  rw [show ((M.length + 1 : Nat) : Int) = m by omega] at r1
  have hg : w.heap.size ≤ g ∨ ¬ (g ≠ p ∧ some g ≠ cv.ownBlock) := h.fg.elim (fun e => .inr (fun e' => e'.2 e.symm)) .inl
  refine ⟨_, RJ.made r1 (by simp) (by rw [List.length_set, List.length_append, List.length_cons, List.length_nil]; omega) (by rw [List.length_set]; exact h.le) (fun e => by rw [List.length_set]; exact h.sl e) (by rw [← hj]; exact ring_put x hlt h.he), ((h.kx.set (p := ⟨g, j * 2, none⟩) hg _).set (p := ⟨g, j * 2 + 1, none⟩) hg _).set (p := ⟨p, 3, none⟩) (.inr (fun e => e.1 rfl)) _, ?_⟩
  rcases h.fg with e | e
  · exact .inr (.inl e.symm)
  · exact .inr (.inr ⟨g, rfl, e⟩)
set_option maxRecDepth 100000 in
set_option maxHeartbeats 1000000 in
theorem putj {w : World} {p : Nat} {cv : Value} {s : Nat} {M : List (Int × Int)} (x : Int × Int) (h : RJ w p cv s M) (hM : M.length ≤ 1000) (hfull : fullJ s M = false) : Calls Try.prog 43 #[.pointer (some ⟨p, 0, none⟩), .agg #[.int .i64 x.1, .int .i64 x.2]] w fun e w' => e = .returned (.bool true) ∧ ∃ cv', RJ w' p cv' s (M ++ [x]) ∧ RC w w' p cv cv' := by
  have hfu := h.full
  obtain ⟨x1, x2⟩ := x
  have hb0 : Below w.heap.size w (w.alloc (.cells #[.int .i64 x1, .int .i64 x2] 59)) := (Below.refl _ _).alloc (Nat.le_refl _) _
  obtain ⟨C, f, h0, h2, h3, h4, h5⟩ := h
  have h1 := h0.below hb0
  have HC := hide (fullj h1 false (by rw [← hfu]; exact hfull.symm))
  have hs : s = 0 ∨ M.length < s := by
    rw [hfu] at hfull
    by_cases e : 0 < s
    · have := h4 e
      rw [decide_eq_true e, Bool.true_and] at hfull
      have := of_decide_eq_false hfull
      omega
    · omega
  have H1 := hide h1
  have H5 := hide h5
  have hx0 : (w.alloc (.cells #[.int .i64 x1, .int .i64 x2] 59)).cell? ⟨w.heap.size, 0, none⟩ = some (.int .i64 x1) := by simp [go_sem]
  have hx1 : (w.alloc (.cells #[.int .i64 x1, .int .i64 x2] 59)).cell? ⟨w.heap.size, 1, none⟩ = some (.int .i64 x2) := by simp [go_sem]
  have hpl := h0.lt
  have HO := hide (fun b (hb : cv.ownBlock = some b) => (h0.own hb).1)
  clear h0 h1 h5 hfu hfull
  go_enter Try.func43, Try.ntmps43
  go_wp2_with fail
  refine HC.out.mono ?_
  rintro e w1 ⟨rfl, n, rfl⟩
  have hr := H1.out.heap (w' := (w.alloc (.cells #[.int .i64 x1, .int .i64 x2] 59)).drewN n) rfl
  obtain ⟨W, hW⟩ : ∃ W, (w.alloc (.cells #[.int .i64 x1, .int .i64 x2] 59)).drewN n = W := ⟨_, rfl⟩
  have HK : Hid (Below w.heap.size w W) := hide (by rw [← hW]; exact below_drewN hb0 n)
  have hx0 : W.cell? ⟨w.heap.size, 0, none⟩ = some (.int .i64 x1) := by rw [← hW]; exact hx0
  have hx1 : W.cell? ⟨w.heap.size, 1, none⟩ = some (.int .i64 x2) := by rw [← hW]; exact hx1
  have hWs : w.heap.size < W.heap.size := World.block_lt_of_cell? _ _ hx0
  rw [hW] at hr
  rw [hW]
  clear hW HC H1 hb0
  obtain ⟨a, c, rfl⟩ := hr.cvf
  have c1 := hr.c1
  have c2 := hr.c2
  have c3 := hr.c3
  have HB := hide hr
  clear hr
  by_cases hm : M.length = C.length
  · have hd : ((M.length : Int) == (C.length : Int)) = true := by rw [hm]; simp
    have HW := hide (fun n => widenj (HB.out.heap (w' := W.drewN n) rfl) (by omega) (by omega))
    go_wp2
    go_quiet (fail)
    rename_i nq
    go_wp2_with fail
    refine (HW.out nq).mono ?_
    rintro e W2 ⟨rfl, n2, q1, q2, q3, q4, q5⟩
    have hx0 : W2.cell? ⟨w.heap.size, 0, none⟩ = some (.int .i64 x1) := q5.cell (show (W.drewN nq).cell? ⟨w.heap.size, 0, none⟩ = _ from hx0) (fun e => by change w.heap.size = p at e; omega)
    have hx1 : W2.cell? ⟨w.heap.size, 1, none⟩ = some (.int .i64 x2) := q5.cell (show (W.drewN nq).cell? ⟨w.heap.size, 1, none⟩ = _ from hx1) (fun e => by change w.heap.size = p at e; omega)
    have HP : Hid (PSj w p (.slice a C.length c) s M W2 (rowOf (0, 0) C f n2) (W.drewN nq).heap.size 0) := hide (by
      have hl := rowOf_len (0, 0) C f n2 HB.out.fC
      refine ⟨by rw [hl]; exact q4, by rw [hl]; omega, by rw [hl]; exact q2, fun e => by rw [hl]; omega, fun k x hx => ?_, ((Kx.of_below HK.out).drewN nq).trans (q5.mono (fun b _ hb => hb.1)), .inr HK.out.size⟩
      have hk := (List.getElem?_eq_some_iff.1 hx).1
      rw [hl, Nat.zero_add, Nat.mod_eq_of_lt (by omega)]
      exact rowOf_held (0, 0) C M f n2 h2 (by omega) HB.out.fC H5.out k x hx)
    have hgw : (W.drewN nq).heap.size ≠ w.heap.size := fun e => by change W.heap.size = _ at e; omega
    clear HB HK H5 c1 c2 c3 hs h2 h3 h4 hd HW q1 q2 q3 q4 q5 hm HO
    obtain ⟨C2, g2, f2, HP, hgw⟩ : ∃ C2 g2 f2, Hid (PSj w p (.slice a C.length c) s M W2 C2 g2 f2) ∧ g2 ≠ w.heap.size := ⟨_, _, _, HP, hgw⟩
    obtain ⟨j, hj⟩ : ∃ j, (f2 + M.length) % C2.length = j := ⟨_, rfl⟩
    have hjl : j < C2.length := by rw [← hj]; exact Nat.mod_lt _ (by have := HP.out.lt; omega)
    obtain ⟨y, hy⟩ : ∃ y, C2[j]? = some y := ⟨_, List.getElem?_eq_getElem hjl⟩
    have HFin := hide (fun m hm => (HP.out.drew 1).fin (x1, x2) j hj m hm)
    have k1 := HP.out.rb.c1
    have k2 := HP.out.rb.c2
    have k3 := HP.out.rb.c3
    obtain ⟨kg, kg2⟩ := HP.out.rb.rc rfl hy
    have kf := HP.out.rb.rz rfl (j * 2)
    have kf2 := HP.out.rb.rz rfl (j * 2 + 1)
    have k4 := HP.out.rb.fz 3
    have hgp : g2 ≠ p := (HP.out.rb.own rfl).2
    have hb1 := HP.out.lt
    have hb2 := HP.out.le
    have hb3 : f2 < C2.length := by
      rcases HP.out.rb.fC with e | e
      · exact e
      · subst e; cases hjl
    have hrem : Int.tmod ((f2 : Int) + (M.length : Int)) (C2.length : Int) = (j : Int) := by
      rw [← hj]
      exact (Int.ofNat_tmod (f2 + M.length) C2.length).symm ▸ rfl
    clear hy hj HP
    go_wp2
    go_region
    have z3 : (((W2.drewN 1).setCell ⟨g2, j * 2, none⟩ (.int .i64 x1)).setCell ⟨g2, j * 2 + 1, none⟩ (.int .i64 x2)).cell? ⟨p, 3, none⟩ = some (.int .i64 (M.length : Int)) := (World.cell?_setCell_other _ _ _ _ (fun e => hgp (by injection e))).trans ((World.cell?_setCell_other _ _ _ _ (fun e => hgp (by injection e))).trans k3)
    go_wp2
    go_ret
    exact ⟨rfl, HFin.out _ rfl⟩
  · have hd : ((M.length : Int) == (C.length : Int)) = false := by simp; omega
    go_wp2
    go_quiet (fail)
    obtain ⟨g, ha, hc⟩ : ∃ g, a = some ⟨g, 0, none⟩ ∧ c = C.length := by
      rcases HB.out.row with ⟨e, -⟩ | ⟨g, e, -⟩
      · have : C.length = 0 := by rw [e]; rfl
        omega
      · simp only [Value.slice.injEq, true_and] at e
        exact ⟨g, e.1, e.2⟩
    subst ha hc
    have hgw : g ≠ w.heap.size := fun e => by have := HO.out g rfl; omega
    have HP : Hid (PSj w p (.slice (some ⟨g, 0, none⟩) C.length C.length) s M (W.drewN nq) C g f) := hide ⟨HB.out.heap rfl, by omega, h3, h4, H5.out, (Kx.of_below HK.out).drewN nq, .inl rfl⟩
    have hx0 : (W.drewN nq).cell? ⟨w.heap.size, 0, none⟩ = some (.int .i64 x1) := hx0
    have hx1 : (W.drewN nq).cell? ⟨w.heap.size, 1, none⟩ = some (.int .i64 x2) := hx1
    clear HB HK H5 c1 c2 c3 hs h2 h3 h4 hd HO
    generalize W.drewN nq = W2 at *
    obtain ⟨C2, g2, f2, HP, hgw⟩ : ∃ C2 g2 f2, Hid (PSj w p (.slice (some ⟨g, 0, none⟩) C.length C.length) s M W2 C2 g2 f2) ∧ g2 ≠ w.heap.size := ⟨C, g, f, HP, hgw⟩
    obtain ⟨j, hj⟩ : ∃ j, (f2 + M.length) % C2.length = j := ⟨_, rfl⟩
    have hjl : j < C2.length := by rw [← hj]; exact Nat.mod_lt _ (by have := HP.out.lt; omega)
    obtain ⟨y, hy⟩ : ∃ y, C2[j]? = some y := ⟨_, List.getElem?_eq_getElem hjl⟩
    have HFin := hide (fun m hm => (HP.out.drew 1).fin (x1, x2) j hj m hm)
    have k1 := HP.out.rb.c1
    have k2 := HP.out.rb.c2
    have k3 := HP.out.rb.c3
    obtain ⟨kg, kg2⟩ := HP.out.rb.rc rfl hy
    have kf := HP.out.rb.rz rfl (j * 2)
    have kf2 := HP.out.rb.rz rfl (j * 2 + 1)
    have k4 := HP.out.rb.fz 3
    have hgp : g2 ≠ p := (HP.out.rb.own rfl).2
    have hb1 := HP.out.lt
    have hb2 := HP.out.le
    have hb3 : f2 < C2.length := by
      rcases HP.out.rb.fC with e | e
      · exact e
      · subst e; cases hjl
    have hrem : Int.tmod ((f2 : Int) + (M.length : Int)) (C2.length : Int) = (j : Int) := by
      rw [← hj]
      exact (Int.ofNat_tmod (f2 + M.length) C2.length).symm ▸ rfl
    clear hy hj HP
    go_wp2
    go_region
    have z3 : (((W2.drewN 1).setCell ⟨g2, j * 2, none⟩ (.int .i64 x1)).setCell ⟨g2, j * 2 + 1, none⟩ (.int .i64 x2)).cell? ⟨p, 3, none⟩ = some (.int .i64 (M.length : Int)) := (World.cell?_setCell_other _ _ _ _ (fun e => hgp (by injection e))).trans ((World.cell?_setCell_other _ _ _ _ (fun e => hgp (by injection e))).trans k3)
    go_wp2
    go_ret
    exact ⟨rfl, HFin.out _ rfl⟩
theorem RBj.tk {w V : World} {p s : Nat} {x : Int × Int} {M : List (Int × Int)} {C : List (Int × Int)} {g f : Nat} (h : RBj V p s C (.slice (some ⟨g, 0, none⟩) C.length C.length) f (M.length + 1)) (h2 : M.length + 1 ≤ C.length) (h3 : C.length ≤ 2000) (h4 : 0 < s → C.length ≤ s) (h5 : ∀ (k : Nat) y, (x :: M)[k]? = some y → C[(f + k) % C.length]? = some y) (hk : Kx (fun b => b ≠ p ∧ some b ≠ some g) w V) (f' m' : Int) (hf : f' = ((f + 1) % C.length : Nat)) (hm : m' = M.length) :
    RJ ((((V.setCell ⟨g, f * 2, none⟩ (.int .i64 0)).setCell ⟨g, f * 2 + 1, none⟩ (.int .i64 0)).setCell ⟨p, 2, none⟩ (.int .i64 f')).setCell ⟨p, 3, none⟩ (.int .i64 m')) p (.slice (some ⟨g, 0, none⟩) C.length C.length) s M ∧ Kx (fun b => b ≠ p ∧ some b ≠ some g) w ((((V.setCell ⟨g, f * 2, none⟩ (.int .i64 0)).setCell ⟨g, f * 2 + 1, none⟩ (.int .i64 0)).setCell ⟨p, 2, none⟩ (.int .i64 f')).setCell ⟨p, 3, none⟩ (.int .i64 m')) := by
  have hfl : f < C.length := by
    rcases h.fC with e | e
    · exact e
    · subst e; simp at h2
  have r1 := ((h.setX rfl f (0, 0)).setF ((f + 1) % C.length) (.inl (by rw [List.length_set]; exact Nat.mod_lt _ (by omega)))).setM M.length
  rw [← hf, ← hm] at r1
  refine ⟨RJ.made r1 rfl (by rw [List.length_set]; omega) (by rw [List.length_set]; exact h3) (fun e => by rw [List.length_set]; exact h4 e) (ring_take (0, 0) hfl h2 h5), ?_⟩
  exact (((hk.set (p := ⟨g, f * 2, none⟩) (.inr (fun e => e.2 rfl)) _).set (p := ⟨g, f * 2 + 1, none⟩) (.inr (fun e => e.2 rfl)) _).set (p := ⟨p, 2, none⟩) (.inr (fun e => e.1 rfl)) _).set (p := ⟨p, 3, none⟩) (.inr (fun e => e.1 rfl)) _
end Go.Proofs.Ytbepaimbbclejaa

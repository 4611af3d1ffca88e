import Derived.Test.YtbepaimbbclejaaRjB
/- Package ring, of items: Take, All, Clear. -/
namespace Go.Proofs.Ytbepaimbbclejaa
open Go.RowKit

set_option maxRecDepth 100000
set_option maxHeartbeats 1000000
theorem takej_nil {w : World} {p : Nat} {cv : Value} {s : Nat} (h : RJ w p cv s []) : Calls Try.prog 46 #[.pointer (some ⟨p, 0, none⟩)] w fun e w' => e = .returned (.tuple #[.agg #[.int .i64 0, .int .i64 0], .bool false]) ∧ Below w.heap.size w w' := by
  obtain ⟨C, f, h1, -⟩ := h
  have c3 : w.cell? ⟨p, 3, none⟩ = some (.int .i64 0) := h1.c3
  have hp := h1.lt
  have hp2 : p ≠ w.heap.size := by omega
  have hp3 : p ≠ w.heap.size + 1 := by omega
  clear h1
  go_enter Try.func46, Try.ntmps46
  go_wp2
  refine bodyPost_ret (v := .tuple #[.agg #[.int .i64 0, .int .i64 0], .bool false]) (by simp [results, Try.results46, go_sem]) rfl ⟨rfl, ?_⟩
  exact ((Below.refl _ _).alloc (Nat.le_refl _) _).alloc (by simp) _
theorem two_new (w : World) (t : TypeId) (u0 u1 : Value) : (w.alloc (.cells #[u0, u1] t)).cell? ⟨w.heap.size, 0, none⟩ = some u0 ∧ (w.alloc (.cells #[u0, u1] t)).cell? ⟨w.heap.size, 1, none⟩ = some u1 := by
  constructor <;> simp [go_sem]
theorem takej_some {w : World} {p : Nat} {cv : Value} {s : Nat} {x : Int × Int} {M : List (Int × Int)} (h : RJ w p cv s (x :: M)) : Calls Try.prog 46 #[.pointer (some ⟨p, 0, none⟩)] w fun e w' => e = .returned (.tuple #[.agg #[.int .i64 x.1, .int .i64 x.2], .bool true]) ∧ RJ w' p cv s M ∧ Kx (fun b => b ≠ p ∧ some b ≠ cv.ownBlock) w w' := by
  obtain ⟨x1, x2⟩ := x
  obtain ⟨C, f, h1, h2, h3, h4, h5⟩ := h
  have hfl : f < C.length := by
    rcases h1.fC with e | e
    · exact e
    · subst e; simp at h2
  obtain ⟨g, rfl⟩ : ∃ g, cv = .slice (some ⟨g, 0, none⟩) C.length C.length := by
    rcases h1.row with ⟨e, -⟩ | ⟨g, e, -⟩
    · subst e; cases hfl
    · exact ⟨g, e⟩
  have hx : C[f]? = some (x1, x2) := by
    have := h5 0 (x1, x2) rfl
    rwa [Nat.add_zero, Nat.mod_eq_of_lt hfl] at this
  have hb0 : Below w.heap.size w ((w.alloc (.cells #[.int .i64 0, .int .i64 0] 59)).alloc (.cells #[.int .i64 0, .int .i64 0] 59)) := ((Below.refl _ _).alloc (Nat.le_refl _) _).alloc (by simp) _
  have HH := hide (And.intro h1 (And.intro h2 (And.intro h3 (And.intro h4 h5))))
  have hgl := (h1.own (b := g) rfl).1
  have hgp : g ≠ p := (h1.own rfl).2
  have hpl := h1.lt
  have hd : (((M.length : Int) + 1) == 0) = false := by simp; omega
  have hml : M.length + 1 ≤ 2000 := by simp at h2; omega
  have hfa : ∀ W : World, Below w.heap.size w W → W.cell? ⟨p, 1, none⟩ = some (.slice (some ⟨g, 0, none⟩) C.length C.length) ∧ W.cell? ⟨p, 2, none⟩ = some (.int .i64 (f : Int)) ∧ W.cell? ⟨p, 3, none⟩ = some (.int .i64 ((M.length : Int) + 1)) ∧ W.cell? ⟨g, f * 2, none⟩ = some (.int .i64 x1) ∧ W.cell? ⟨g, f * 2 + 1, none⟩ = some (.int .i64 x2) ∧ W.frozen? ⟨p, 2, none⟩ = false ∧ W.frozen? ⟨p, 3, none⟩ = false ∧ W.frozen? ⟨g, f * 2, none⟩ = false ∧ W.frozen? ⟨g, f * 2 + 1, none⟩ = false := fun W hb => by
    have hr := h1.below hb
    obtain ⟨e1, e2⟩ := hr.rc rfl hx
    exact ⟨hr.c1, hr.c2, by simpa using hr.c3, e1, e2, hr.fz 2, hr.fz 3, hr.rz rfl _, hr.rz rfl _⟩
  have HFA := hide hfa
  obtain ⟨W, hW⟩ : ∃ W, (w.alloc (.cells #[.int .i64 0, .int .i64 0] 59)).alloc (.cells #[.int .i64 0, .int .i64 0] 59) = W := ⟨_, rfl⟩
  have hWs : W.heap.size = w.heap.size + 2 := by rw [← hW]; simp
  have r0 : W.cell? ⟨w.heap.size, 0, none⟩ = some (.int .i64 0) ∧ W.cell? ⟨w.heap.size, 1, none⟩ = some (.int .i64 0) := by rw [← hW]; constructor <;> simp [go_sem]
  have rf : W.frozen? ⟨w.heap.size, 0, none⟩ = false ∧ W.frozen? ⟨w.heap.size, 1, none⟩ = false := by rw [← hW]; constructor <;> simp [go_sem]
  have n0 : W.cell? ⟨w.heap.size + 1, 0, none⟩ = some (.int .i64 0) ∧ W.cell? ⟨w.heap.size + 1, 1, none⟩ = some (.int .i64 0) := by rw [← hW]; constructor <;> simp [go_sem]
  rw [hW] at hb0
  have c3 := (HFA.out W hb0).2.2.1
  rw [← hW] at c3
  have HH := hide (And.intro h1 (And.intro h2 (And.intro h3 (And.intro h4 h5))))
  have HW := hide hW
  clear h1 h2 h4 h5 hx hfa hW
  go_enter Try.func46, Try.ntmps46
  go_wp2
  rw [HW.out]
  clear c3
  have HB0 := hide hb0
  obtain ⟨a1, a2, a3, a4, a5, a6, a7, a8, a9⟩ := HFA.out W hb0
  have hb1 : Below w.heap.size w (W.alloc (.cells #[.int .i64 0, .int .i64 0] 59)) := hb0.alloc hb0.size _
  obtain ⟨b1, b2, b3, b4, b5, b6, b7, b8, b9⟩ := HFA.out _ hb1
  clear hb0 hb1
  go_region
  have hb1 : Below w.heap.size w (W.alloc (.cells #[.int .i64 x1, .int .i64 x2] 59)).drew := below_drewN (HB0.out.alloc HB0.out.size _) 1
  have e1 : (W.alloc (.cells #[.int .i64 x1, .int .i64 x2] 59)).drew.cell? ⟨w.heap.size + 2, 0, none⟩ = some (.int .i64 x1) := by rw [← hWs]; simp [go_sem]
  have e2 : (W.alloc (.cells #[.int .i64 x1, .int .i64 x2] 59)).drew.cell? ⟨w.heap.size + 2, 1, none⟩ = some (.int .i64 x2) := by rw [← hWs]; simp [go_sem]
  have hnw : Below W.heap.size W (W.alloc (.cells #[.int .i64 x1, .int .i64 x2] 59)).drew := below_drewN ((Below.refl _ _).alloc (Nat.le_refl _) _) 1
  have e3 := And.intro (bsome hnw r0.1) (bsome hnw r0.2)
  have n0 := And.intro (bsome hnw n0.1) (bsome hnw n0.2)
  have e5 := And.intro ((hnw.frozen (p := ⟨w.heap.size, 0, none⟩) (by simp [hWs])).trans rf.1) ((hnw.frozen (p := ⟨w.heap.size, 1, none⟩) (by simp [hWs])).trans rf.2)
  clear hnw
  generalize (W.alloc (.cells #[.int .i64 x1, .int .i64 x2] 59)).drew = V at *
  clear a1 a2 a3 a4 a5 a6 a7 a8 a9 b1 b2 b3 b4 b5 b6 b7 b8 b9 r0 rf hWs HW HB0
  obtain ⟨a1, a2, a3, a4, a5, a6, a7, a8, a9⟩ := HFA.out V hb1
  obtain ⟨n0, n1⟩ := n0
  have HB1 := hide hb1
  have HV := hide (And.intro e3 e5)
  clear e3 e5 hb1
  go_wp2
  go_region
  obtain ⟨j, hj⟩ : ∃ j, (f + 1) % C.length = j := ⟨_, rfl⟩
  have hrem : Int.tmod ((f : Int) + 1) (C.length : Int) = (j : Int) := by
    rw [← hj]
    exact (Int.ofNat_tmod (f + 1) C.length).symm ▸ rfl
  have HFin : Hid (RJ ((((V.setCell ⟨g, f * 2, none⟩ (.int .i64 0)).setCell ⟨g, f * 2 + 1, none⟩ (.int .i64 0)).setCell ⟨p, 2, none⟩ (.int .i64 (j : Int))).setCell ⟨p, 3, none⟩ (.int .i64 (M.length : Int))) p (.slice (some ⟨g, 0, none⟩) C.length C.length) s M ∧ Kx (fun b => b ≠ p ∧ some b ≠ some g) w ((((V.setCell ⟨g, f * 2, none⟩ (.int .i64 0)).setCell ⟨g, f * 2 + 1, none⟩ (.int .i64 0)).setCell ⟨p, 2, none⟩ (.int .i64 (j : Int))).setCell ⟨p, 3, none⟩ (.int .i64 (M.length : Int)))) := hide (by
    obtain ⟨h1, h2, h3, h4, h5⟩ := HH.out
    exact RBj.tk (x := (x1, x2)) (h1.below HB1.out) h2 h3 h4 h5 (Kx.of_below HB1.out) _ _ (by rw [hj]) rfl)
  have hne : ∀ i k, (⟨g, i, none⟩ : Addr) ≠ ⟨p, k, none⟩ := fun i k e => hgp (by injection e)
  have hnr : ∀ i k b, w.heap.size ≤ b → (⟨g, i, none⟩ : Addr) ≠ ⟨b, k, none⟩ := fun i k b hb e => by injection e; omega
  have z1 : ((V.setCell ⟨g, f * 2, none⟩ (.int .i64 0)).setCell ⟨g, f * 2 + 1, none⟩ (.int .i64 0)).drew.cell? ⟨p, 1, none⟩ = _ := (World.cell?_setCell_other _ _ _ _ (hne _ 1)).trans ((World.cell?_setCell_other _ _ _ _ (hne _ 1)).trans a1)
  have z2 : ((V.setCell ⟨g, f * 2, none⟩ (.int .i64 0)).setCell ⟨g, f * 2 + 1, none⟩ (.int .i64 0)).drew.cell? ⟨p, 2, none⟩ = _ := (World.cell?_setCell_other _ _ _ _ (hne _ 2)).trans ((World.cell?_setCell_other _ _ _ _ (hne _ 2)).trans a2)
  have z3 : ((V.setCell ⟨g, f * 2, none⟩ (.int .i64 0)).setCell ⟨g, f * 2 + 1, none⟩ (.int .i64 0)).drew.cell? ⟨p, 3, none⟩ = _ := (World.cell?_setCell_other _ _ _ _ (hne _ 3)).trans ((World.cell?_setCell_other _ _ _ _ (hne _ 3)).trans a3)
  have y2 : ((V.setCell ⟨g, f * 2, none⟩ (.int .i64 0)).setCell ⟨g, f * 2 + 1, none⟩ (.int .i64 0)).drew.frozen? ⟨p, 2, none⟩ = false := (World.frozen?_setCell _ _ _ _).trans ((World.frozen?_setCell _ _ _ _).trans a6)
  have y3 : ((V.setCell ⟨g, f * 2, none⟩ (.int .i64 0)).setCell ⟨g, f * 2 + 1, none⟩ (.int .i64 0)).drew.frozen? ⟨p, 3, none⟩ = false := (World.frozen?_setCell _ _ _ _).trans ((World.frozen?_setCell _ _ _ _).trans a7)
  have x0 : ((V.setCell ⟨g, f * 2, none⟩ (.int .i64 0)).setCell ⟨g, f * 2 + 1, none⟩ (.int .i64 0)).drew.cell? ⟨w.heap.size + 2, 0, none⟩ = _ := (World.cell?_setCell_other _ _ _ _ (hnr _ 0 _ (by omega))).trans ((World.cell?_setCell_other _ _ _ _ (hnr _ 0 _ (by omega))).trans e1)
  have x1' : ((V.setCell ⟨g, f * 2, none⟩ (.int .i64 0)).setCell ⟨g, f * 2 + 1, none⟩ (.int .i64 0)).drew.cell? ⟨w.heap.size + 2, 1, none⟩ = _ := (World.cell?_setCell_other _ _ _ _ (hnr _ 1 _ (by omega))).trans ((World.cell?_setCell_other _ _ _ _ (hnr _ 1 _ (by omega))).trans e2)
  have v0 : ((V.setCell ⟨g, f * 2, none⟩ (.int .i64 0)).setCell ⟨g, f * 2 + 1, none⟩ (.int .i64 0)).drew.cell? ⟨w.heap.size, 0, none⟩ = _ := (World.cell?_setCell_other _ _ _ _ (hnr _ 0 _ (by omega))).trans ((World.cell?_setCell_other _ _ _ _ (hnr _ 0 _ (by omega))).trans HV.out.1.1)
  have v1 : ((V.setCell ⟨g, f * 2, none⟩ (.int .i64 0)).setCell ⟨g, f * 2 + 1, none⟩ (.int .i64 0)).drew.cell? ⟨w.heap.size, 1, none⟩ = _ := (World.cell?_setCell_other _ _ _ _ (hnr _ 1 _ (by omega))).trans ((World.cell?_setCell_other _ _ _ _ (hnr _ 1 _ (by omega))).trans HV.out.1.2)
  have t0 : ((V.setCell ⟨g, f * 2, none⟩ (.int .i64 0)).setCell ⟨g, f * 2 + 1, none⟩ (.int .i64 0)).drew.frozen? ⟨w.heap.size, 0, none⟩ = false := (World.frozen?_setCell _ _ _ _).trans ((World.frozen?_setCell _ _ _ _).trans HV.out.2.1)
  have t1 : ((V.setCell ⟨g, f * 2, none⟩ (.int .i64 0)).setCell ⟨g, f * 2 + 1, none⟩ (.int .i64 0)).drew.frozen? ⟨w.heap.size, 1, none⟩ = false := (World.frozen?_setCell _ _ _ _).trans ((World.frozen?_setCell _ _ _ _).trans HV.out.2.2)
  obtain ⟨U, hU⟩ : ∃ U, ((V.setCell ⟨g, f * 2, none⟩ (.int .i64 0)).setCell ⟨g, f * 2 + 1, none⟩ (.int .i64 0)).drew = U := ⟨_, rfl⟩
  have HFin2 : Hid (RJ ((U.setCell ⟨p, 2, none⟩ (.int .i64 (j : Int))).setCell ⟨p, 3, none⟩ (.int .i64 (M.length : Int))) p (.slice (some ⟨g, 0, none⟩) C.length C.length) s M ∧ Kx (fun b => b ≠ p ∧ some b ≠ some g) w ((U.setCell ⟨p, 2, none⟩ (.int .i64 (j : Int))).setCell ⟨p, 3, none⟩ (.int .i64 (M.length : Int)))) := hide (by
    rw [← hU]
    obtain ⟨q1, q2⟩ := HFin.out
    have hkd : Kx (fun _ => True) ((((V.setCell ⟨g, f * 2, none⟩ (.int .i64 0)).setCell ⟨g, f * 2 + 1, none⟩ (.int .i64 0)).setCell ⟨p, 2, none⟩ (.int .i64 (j : Int))).setCell ⟨p, 3, none⟩ (.int .i64 (M.length : Int))) ((((V.setCell ⟨g, f * 2, none⟩ (.int .i64 0)).setCell ⟨g, f * 2 + 1, none⟩ (.int .i64 0)).drew.setCell ⟨p, 2, none⟩ (.int .i64 (j : Int))).setCell ⟨p, 3, none⟩ (.int .i64 (M.length : Int))) := ⟨rfl, rfl, rfl, Nat.le_refl _, fun _ _ _ => rfl⟩
    exact ⟨q1.keep hkd trivial (fun _ _ => trivial), q2.step hkd (fun _ _ _ => trivial)⟩)
  rw [hU] at z1 z2 z3 y2 y3 x0 x1' v0 v1 t0 t1
  rw [hU]
  clear hU HFin HV HB1 a1 a2 a3 a4 a5 a6 a7 a8 a9 e1 e2 n0 n1 hne hnr HH HFA hj
  go_wp2
  go_region
  go_wp2
  refine bodyPost_ret (v := .tuple #[.agg #[.int .i64 x1, .int .i64 x2], .bool true]) (by simp [results, Try.results46, go_sem, v0, v1]) rfl ⟨rfl, ?_⟩
  obtain ⟨q1, q2⟩ := HFin2.out
  have hkd : Kx (fun b => b ≠ w.heap.size) ((U.setCell ⟨p, 2, none⟩ (.int .i64 (j : Int))).setCell ⟨p, 3, none⟩ (.int .i64 (M.length : Int))) ((((U.setCell ⟨p, 2, none⟩ (.int .i64 (j : Int))).setCell ⟨p, 3, none⟩ (.int .i64 (M.length : Int))).setCell ⟨w.heap.size, 0, none⟩ (.int .i64 x1)).setCell ⟨w.heap.size, 1, none⟩ (.int .i64 x2)).drew := (((Kx.refl _ _).set (p := ⟨w.heap.size, 0, none⟩) (.inr (fun e => e rfl)) _).set (p := ⟨w.heap.size, 1, none⟩) (.inr (fun e => e rfl)) _).drewN 1
  exact ⟨q1.keep hkd (fun e => by omega) (fun b hb e => by
    have : g = b := by simpa [Value.ownBlock] using hb
    omega), q2.step hkd (fun b hb _ e => by omega)⟩
theorem allj {w : World} {p : Nat} {cv : Value} {s : Nat} {M : List (Int × Int)} (h : RJ w p cv s M) : Calls Try.prog 52 #[.pointer (some ⟨p, 0, none⟩)] w fun e w' => e = .returned (.slice (some ⟨w.heap.size, 0, none⟩) M.length M.length) ∧ w'.heap[w.heap.size]? = some (.cells (icl M).toArray 59 (0, 0)) ∧ Below w.heap.size w w' := by
  obtain ⟨C, f, h1, h2, h3, h4, h5⟩ := h
  have c3 := h1.c3
  have HR := hide (rowj h1 h3 M.length (by omega))
  rw [rowOf_all (0, 0) C M f h2 h1.fC h5] at HR
  clear h1 h2 h3 h4 h5
  go_enter Try.func52, Try.ntmps52
  go_wp2_with fail
  refine HR.out.mono ?_
  rintro e w1 ⟨rfl, q1, q2⟩
  have HQ := hide (And.intro q1 q2)
  clear q1 q2
  go_wp2
  go_ret
  exact ⟨rfl, HQ.out⟩
theorem itr_of {w : World} {g : Nat} {M : List (Int × Int)} (h : w.heap[g]? = some (.cells (icl M).toArray 59 (0, 0))) : ∀ (k : Nat) x, M[k]? = some x → w.cell? ⟨g, k * 2, none⟩ = some (.int .i64 x.1) ∧ w.cell? ⟨g, k * 2 + 1, none⟩ = some (.int .i64 x.2) := fun k x hx => by
  obtain ⟨e1, e2⟩ := icl_at M k x hx
  exact ⟨by rw [cell_of_row _ _ _ _ _ _ h]; simpa using e1, by rw [cell_of_row _ _ _ _ _ _ h]; simpa using e2⟩
theorem clearj {w : World} {p : Nat} {cv : Value} {s : Nat} {M : List (Int × Int)} (h : RJ w p cv s M) : Calls Try.prog 60 #[.pointer (some ⟨p, 0, none⟩)] w fun e w' => e = .returned (.slice (some ⟨w.heap.size, 0, none⟩) M.length M.length) ∧ w'.heap[w.heap.size]? = some (.cells (icl M).toArray 59 (0, 0)) ∧ RJ w' p (.slice none 0 0) s [] ∧ Kx (fun b => b ≠ p) w w' := by
  have HA := hide (allj h)
  obtain ⟨C, f, h1, h2, h3, h4, h5⟩ := h
  have H1 := hide h1
  have hlt := h1.lt
  clear h1 h2 h3 h4 h5
  go_enter Try.func60, Try.ntmps60
  go_wp2_with fail
  refine HA.out.mono ?_
  rintro e w1 ⟨rfl, q1, q2⟩
  have hr := H1.out.below q2
  have d1 := hr.c1
  have d2 := hr.c2
  have d3 := hr.c3
  have f1 := hr.fz 1
  have f2 := hr.fz 2
  have f3 := hr.fz 3
  have HR := hide hr
  have HA1 := hide q1
  have HQ := hide q2
  clear hr q1 q2
  go_wp2
  go_ret
  refine ⟨rfl, ?_, RJ.made HR.out.clr rfl (Nat.le_refl _) (Nat.zero_le _) (fun _ => Nat.zero_le _) (fun k x h => by simp at h), ?_⟩
  · have hn : w.heap.size ≠ p := by omega
    exact (Below.heap_setCell _ _ _ _ hn).trans ((Below.heap_setCell _ _ _ _ hn).trans ((Below.heap_setCell _ _ _ _ hn).trans HA1.out))
  · exact ((((Kx.of_below (X := fun b => b ≠ p) HQ.out).set (p := ⟨p, 1, none⟩) (.inr (fun e => e rfl)) _).set (p := ⟨p, 2, none⟩) (.inr (fun e => e rfl)) _).set (p := ⟨p, 3, none⟩) (.inr (fun e => e rfl)) _)
end Go.Proofs.Ytbepaimbbclejaa

import Derived.Test.YtbepaimbbclejaaStGd
import Derived.Deep.RegionHeld3
import Derived.ChangeKeysEq
/- Channels: a step by a store and by a book: Make, Clone, Drop. -/
namespace Go.Proofs.Ytbepaimbbclejaa
open Go.RowKit

set_option maxRecDepth 100000
set_option maxHeartbeats 2000000
section
variable {F1 F2 : Nat → Prop} {B : Nat} {w : World} {q b k1 k2 : Nat} {s1 s2 : Cst}
theorem done_0 (h1 : SX F1 B w q s1) (h2 : BX F2 B w b s2) (hd : ∀ x, F1 x → ¬ F2 x) (w1 : Wf k1 s1) (w2 : Wf k2 s2) (_hk : k1 ≤ 1000) (hB : B ≤ w.heap.size) (d e t n : Int) (g : Bool) (hm : wrap64 ((IntKind.u64.wrap d).tmod 10) = 0) :
    Calls Try.prog 9 #[.pointer (some ⟨q, 0, none⟩), .pointer (some ⟨b, 0, none⟩), .agg #[.int .i64 d, .int .i64 e, .int .i64 t, .int .i64 n, .bool g]] w fun r w' => ∃ u, r = .returned (.bool u) ∧ (s1 = s2 → u = true) ∧ DN F1 F2 B w q b (Bk.op 0 e t n g s1) (Bk.op 0 e t n g s2) w' := by
  have HO1 : Hid (∀ s : Cst, Bk.op 0 e t n g s = Bk.mk s n t) := hide (fun s => by simp [Bk.op])
  rw [HO1.out s1, HO1.out s2]
  obtain ⟨W, hW⟩ : ∃ W, w.alloc (.cells #[.int .i64 d, .int .i64 e, .int .i64 t, .int .i64 n, .bool g] 35) = W := ⟨_, rfl⟩
  have hb0 : Below w.heap.size w W := by rw [← hW]; exact (Below.refl _ _).alloc (Nat.le_refl _) _
  have hWs : W.heap.size = w.heap.size + 1 := by rw [← hW]; simp
  have HC : Hid (∀ X, Kx (fun x => ¬ F1 x ∧ ¬ F2 x) W X → X.cell? ⟨w.heap.size, 1, none⟩ = some (.int .i64 e) ∧ X.cell? ⟨w.heap.size, 2, none⟩ = some (.int .i64 t) ∧ X.cell? ⟨w.heap.size, 3, none⟩ = some (.int .i64 n) ∧ X.cell? ⟨w.heap.size, 4, none⟩ = some (.bool g)) := hide (fun X hX => by
    have hn : ¬ F1 w.heap.size ∧ ¬ F2 w.heap.size := ⟨fun h => by have := (h1.lt _ h).2; omega, fun h => by have := (h2.lt _ h).2; omega⟩
    subst W
    exact ⟨hX.cell (by simp [go_sem]) hn, hX.cell (by simp [go_sem]) hn, hX.cell (by simp [go_sem]) hn, hX.cell (by simp [go_sem]) hn⟩)
  have HW := hide hW
  clear hW
  have C1 := hide ((h1.keep (Kx.of_below hb0)).mk w1 (Nat.le_trans hB hb0.size) n t)
  have C2 : Hid (∀ X, US F1 B W q (Bk.mk s1 n t) X → Calls Try.prog 27 #[.pointer (some ⟨b, 0, none⟩), .int .i64 n, .int .i64 t] X fun r w' => r = .returned (.tuple #[.int .i64 (Bk.mkA s2 t), .int .i64 (Bk.mkB s2 t)]) ∧ UB F2 B X b (Bk.mk s2 n t) w') := hide (fun X hX => (h2.behind hd hb0 hX).mk w2 (by obtain ⟨F', -, k, -⟩ := hX; have := k.size; have := hb0.size; omega) n t)
  have HF : Hid (∀ X Y, US F1 B W q (Bk.mk s1 n t) X → UB F2 B X b (Bk.mk s2 n t) Y → DN F1 F2 B w q b (Bk.mk s1 n t) (Bk.mk s2 n t) Y) := hide (fun X Y u1 u2 => DN.two h2 hd hb0 u1 (Below.refl _ _) u2 (Below.refl _ _))
  have HU : Hid (∀ X s', US F1 B W q s' X → Kx (fun x => ¬ F1 x ∧ ¬ F2 x) W X) := hide (fun X s' u => by obtain ⟨F', -, k, -⟩ := u; exact k.mono (fun x _ hx => hx.1))
  obtain ⟨c1, c2, c3, c4⟩ := HC.out W (Kx.refl _ _)
  rw [← HW.out] at c1 c2 c3 c4
  have c0 : (w.alloc (.cells #[.int .i64 d, .int .i64 e, .int .i64 t, .int .i64 n, .bool g] 35)).cell? ⟨w.heap.size, 0, none⟩ = some (.int .i64 d) := by simp [go_sem]
  have HA : Hid (s1 = s2 → (Bk.mkA s1 t == Bk.mkA s2 t && Bk.mkB s1 t == Bk.mkB s2 t) = true) := hide (fun h => by subst h; simp)
  generalize Bk.mkA s1 t = a1 at *
  generalize Bk.mkB s1 t = a2 at *
  generalize Bk.mkA s2 t = a3 at *
  generalize Bk.mkB s2 t = a4 at *
  clear h1 h2 hd w1 w2 hB _hk hb0 hWs HO1
  go_enter Try.func9, Try.ntmps9
  go_wp2_with fail
  rw [HW.out]
  refine C1.out.mono ?_
  rintro r1 X1 ⟨rfl, u1⟩
  obtain ⟨d1, d2, d3, d4⟩ := HC.out X1 (HU.out _ _ u1)
  have HU1 := hide u1
  clear u1 c0 c1 c2 c3 c4
  go_wp2_with fail
  refine (C2.out X1 HU1.out).mono ?_
  rintro r2 X2 ⟨rfl, u2⟩
  have HR := hide (HF.out _ _ HU1.out u2)
  clear u2
  by_cases e1 : a1 = a3
  · have g1 : (a1 == a3) = true := by rw [e1]; simp
    have HA2 : Hid (s1 = s2 → (a2 == a4) = true) := hide (fun h => by have := HA.out h; rw [g1] at this; simpa using this)
    clear e1
    go_wp2
    go_ret
    exact ⟨_, rfl, HA2.out, HR.out⟩
  · have g1 : (a1 == a3) = false := beq_eq_false_iff_ne.2 e1
    have HA2 : Hid (s1 = s2 → False) := hide (fun h => by have := HA.out h; rw [g1] at this; simp at this)
    clear e1
    go_wp2
    go_ret
    exact ⟨_, rfl, fun h => (HA2.out h).elim, HR.out⟩
theorem done_1 (h1 : SX F1 B w q s1) (h2 : BX F2 B w b s2) (hd : ∀ x, F1 x → ¬ F2 x) (w1 : Wf k1 s1) (w2 : Wf k2 s2) (_hk : k1 ≤ 1000) (hB : B ≤ w.heap.size) (d e t n : Int) (g : Bool) (hm : wrap64 ((IntKind.u64.wrap d).tmod 10) = 1) :
    Calls Try.prog 9 #[.pointer (some ⟨q, 0, none⟩), .pointer (some ⟨b, 0, none⟩), .agg #[.int .i64 d, .int .i64 e, .int .i64 t, .int .i64 n, .bool g]] w fun r w' => ∃ u, r = .returned (.bool u) ∧ (s1 = s2 → u = true) ∧ DN F1 F2 B w q b (Bk.op 1 e t n g s1) (Bk.op 1 e t n g s2) w' := by
  have HO1 : Hid (∀ s : Cst, Bk.op 1 e t n g s = Bk.cl s e t) := hide (fun s => by simp [Bk.op])
  rw [HO1.out s1, HO1.out s2]
  obtain ⟨W, hW⟩ : ∃ W, w.alloc (.cells #[.int .i64 d, .int .i64 e, .int .i64 t, .int .i64 n, .bool g] 35) = W := ⟨_, rfl⟩
  have hb0 : Below w.heap.size w W := by rw [← hW]; exact (Below.refl _ _).alloc (Nat.le_refl _) _
  have hWs : W.heap.size = w.heap.size + 1 := by rw [← hW]; simp
  have HC : Hid (∀ X, Kx (fun x => ¬ F1 x ∧ ¬ F2 x) W X → X.cell? ⟨w.heap.size, 1, none⟩ = some (.int .i64 e) ∧ X.cell? ⟨w.heap.size, 2, none⟩ = some (.int .i64 t) ∧ X.cell? ⟨w.heap.size, 3, none⟩ = some (.int .i64 n) ∧ X.cell? ⟨w.heap.size, 4, none⟩ = some (.bool g)) := hide (fun X hX => by
    have hn : ¬ F1 w.heap.size ∧ ¬ F2 w.heap.size := ⟨fun h => by have := (h1.lt _ h).2; omega, fun h => by have := (h2.lt _ h).2; omega⟩
    subst W
    exact ⟨hX.cell (by simp [go_sem]) hn, hX.cell (by simp [go_sem]) hn, hX.cell (by simp [go_sem]) hn, hX.cell (by simp [go_sem]) hn⟩)
  have HW := hide hW
  clear hW
  have hbd : Below w.heap.size w W.drew := below_drewN hb0 1
  have C1 : Hid (Calls Try.prog 28 #[.pointer (some ⟨q, 0, none⟩), .int .i64 e, .int .i64 t] W.drew fun r w' => ∃ u, r = .returned u ∧ (u = .int .i64 (Bk.clR s1 e t) ∧ US F1 B W.drew q (Bk.cl s1 e t) w')) := hide (((h1.keep (Kx.of_below (btrans hb0 (below_drewN (Below.refl _ _) 1)))).cl w1 e t).mono (fun r w' h => ⟨_, h.1, rfl, h.2⟩))
  have C2 : Hid (∀ X, US F1 B W.drew q (Bk.cl s1 e t) X → Calls Try.prog 29 #[.pointer (some ⟨b, 0, none⟩), .int .i64 e, .int .i64 t] X fun r w' => ∃ u, r = .returned u ∧ (u = .int .i64 (Bk.clR s2 e t) ∧ UB F2 B X b (Bk.cl s2 e t) w')) := hide (fun X hX => ((h2.behind hd hbd hX).cl w2 (by obtain ⟨F', -, k, -⟩ := hX; have := k.size; have := hbd.size; omega) e t).mono (fun r w' h => ⟨_, h.1, rfl, h.2⟩))
  have HF : Hid (∀ X Y, US F1 B W.drew q (Bk.cl s1 e t) X → UB F2 B X b (Bk.cl s2 e t) Y → DN F1 F2 B w q b (Bk.cl s1 e t) (Bk.cl s2 e t) Y) := hide (fun X Y u1 u2 => DN.two h2 hd hbd u1 (Below.refl _ _) u2 (Below.refl _ _))
  have HS0 : Hid ((fun w' : World => w'.cell? ⟨w.heap.size, 1, none⟩ = some (.int .i64 e) ∧ w'.cell? ⟨w.heap.size, 2, none⟩ = some (.int .i64 t)) W.drew) := hide ⟨(HC.out _ ((Kx.refl _ _).drewN 1)).1, (HC.out _ ((Kx.refl _ _).drewN 1)).2.1⟩
  have HU : Hid (∀ X s', US F1 B W.drew q s' X → Kx (fun x => ¬ F1 x ∧ ¬ F2 x) W X) := hide (fun X s' u => by obtain ⟨F', -, k, -⟩ := u; exact ((Kx.refl _ W).drewN 1).step (k.mono (fun x _ hx => hx.1)) (fun _ _ h => h))
  have HS1 : Hid (∀ X s', US F1 B W.drew q s' X → (fun w' : World => w'.cell? ⟨w.heap.size, 1, none⟩ = some (.int .i64 e) ∧ w'.cell? ⟨w.heap.size, 2, none⟩ = some (.int .i64 t)) X) := hide (fun X s' u => ⟨(HC.out _ (HU.out _ _ u)).1, (HC.out _ (HU.out _ _ u)).2.1⟩)
  have HS2 : Hid (∀ X Y s' s'', US F1 B W.drew q s' X → UB F2 B X b s'' Y → (fun w' : World => w'.cell? ⟨w.heap.size, 1, none⟩ = some (.int .i64 e) ∧ w'.cell? ⟨w.heap.size, 2, none⟩ = some (.int .i64 t)) Y) := hide (fun X Y s' s'' u v => by
    obtain ⟨F', -, k, -⟩ := v
    have hkk := (HU.out _ _ u).step k (fun x _ hx => hx.2)
    exact ⟨(HC.out _ hkk).1, (HC.out _ hkk).2.1⟩)
  have c0 : (w.alloc (.cells #[.int .i64 d, .int .i64 e, .int .i64 t, .int .i64 n, .bool g] 35)).cell? ⟨w.heap.size, 0, none⟩ = some (.int .i64 d) := by simp [go_sem]
  have HA : Hid (s1 = s2 → (Bk.clR s1 e t == Bk.clR s2 e t) = true) := hide (fun h => by subst h; simp)
  generalize Bk.clR s1 e t = a1 at *
  generalize Bk.clR s2 e t = a2 at *
  clear h1 h2 hd w1 w2 hB _hk hb0 hWs HO1 HC hbd
  go_enter Try.func9, Try.ntmps9
  go_wp2
  rw [HW.out]
  have kc := HS0
  go_region_held3 (fun w' => w'.cell? ⟨w.heap.size, 1, none⟩ = some (.int .i64 e) ∧ w'.cell? ⟨w.heap.size, 2, none⟩ = some (.int .i64 t)) ((first | (with_reducible exact HS0.out) | (with_reducible exact HS1.out _ _ U1.out) | (with_reducible exact HS2.out _ _ _ _ U1.out U2.out) | go_keep)) ((first
    | (refine step_call_w (by rfl) 28 #[.pointer (some ⟨q, 0, none⟩), .int .i64 e, .int .i64 t] ?_ C1.out ?_; (focus (go_simp; done)); rintro v7 w7 ⟨rfl, u1⟩; have U1 := hide u1; clear u1)
    | (refine step_call_w (by rfl) 29 #[.pointer (some ⟨b, 0, none⟩), .int .i64 e, .int .i64 t] ?_ (C2.out _ U1.out) ?_; (focus (go_simp; done)); rintro v8 w8 ⟨rfl, u2⟩; have U2 := hide u2; clear u2)))
  go_wp2
  go_ret
  exact ⟨_, rfl, HA.out, HF.out _ _ U1.out U2.out⟩
theorem done_8 (h1 : SX F1 B w q s1) (h2 : BX F2 B w b s2) (hd : ∀ x, F1 x → ¬ F2 x) (w1 : Wf k1 s1) (w2 : Wf k2 s2) (hk : k1 ≤ 1000) (_hB : B ≤ w.heap.size) (d e t n : Int) (g : Bool) (hm : wrap64 ((IntKind.u64.wrap d).tmod 10) = 8) :
    Calls Try.prog 9 #[.pointer (some ⟨q, 0, none⟩), .pointer (some ⟨b, 0, none⟩), .agg #[.int .i64 d, .int .i64 e, .int .i64 t, .int .i64 n, .bool g]] w fun r w' => ∃ u, r = .returned (.bool u) ∧ (s1 = s2 → u = true) ∧ DN F1 F2 B w q b (Bk.op 8 e t n g s1) (Bk.op 8 e t n g s2) w' := by
  have HO1 : Hid (∀ s : Cst, Bk.op 8 e t n g s = Bk.dp s e) := hide (fun s => by simp [Bk.op])
  rw [HO1.out s1, HO1.out s2]
  obtain ⟨W, hW⟩ : ∃ W, w.alloc (.cells #[.int .i64 d, .int .i64 e, .int .i64 t, .int .i64 n, .bool g] 35) = W := ⟨_, rfl⟩
  have hb0 : Below w.heap.size w W := by rw [← hW]; exact (Below.refl _ _).alloc (Nat.le_refl _) _
  have hWs : W.heap.size = w.heap.size + 1 := by rw [← hW]; simp
  have HC : Hid (∀ X, Kx (fun x => ¬ F1 x ∧ ¬ F2 x) W X → X.cell? ⟨w.heap.size, 1, none⟩ = some (.int .i64 e) ∧ X.cell? ⟨w.heap.size, 2, none⟩ = some (.int .i64 t) ∧ X.cell? ⟨w.heap.size, 3, none⟩ = some (.int .i64 n) ∧ X.cell? ⟨w.heap.size, 4, none⟩ = some (.bool g)) := hide (fun X hX => by
    have hn : ¬ F1 w.heap.size ∧ ¬ F2 w.heap.size := ⟨fun h => by have := (h1.lt _ h).2; omega, fun h => by have := (h2.lt _ h).2; omega⟩
    subst W
    exact ⟨hX.cell (by simp [go_sem]) hn, hX.cell (by simp [go_sem]) hn, hX.cell (by simp [go_sem]) hn, hX.cell (by simp [go_sem]) hn⟩)
  have HW := hide hW
  clear hW
  have hbd : Below w.heap.size w W.drew := below_drewN hb0 1
  have C1 : Hid (Calls Try.prog 16 #[.pointer (some ⟨q, 0, none⟩), .int .i64 e] W.drew fun r w' => ∃ u, r = .returned u ∧ (u = .bool ((Bk.dpR s1 e).2) ∧ US F1 B W.drew q (Bk.dp s1 e) w')) := hide (((h1.keep (Kx.of_below (btrans hb0 (below_drewN (Below.refl _ _) 1)))).dp w1 hk e).mono (fun r w' h => ⟨_, h.1, rfl, h.2⟩))
  have C2 : Hid (∀ X, US F1 B W.drew q (Bk.dp s1 e) X → Calls Try.prog 32 #[.pointer (some ⟨b, 0, none⟩), .int .i64 e] X fun r w' => ∃ u, r = .returned u ∧ (u = .bool ((Bk.dpR s2 e).2) ∧ UB F2 B X b (Bk.dp s2 e) w')) := hide (fun X hX => ((h2.behind hd hbd hX).dp w2 e).mono (fun r w' h => ⟨_, h.1, rfl, h.2⟩))
  have HF : Hid (∀ X Y, US F1 B W.drew q (Bk.dp s1 e) X → UB F2 B X b (Bk.dp s2 e) Y → DN F1 F2 B w q b (Bk.dp s1 e) (Bk.dp s2 e) Y) := hide (fun X Y u1 u2 => DN.two h2 hd hbd u1 (Below.refl _ _) u2 (Below.refl _ _))
  have HS0 : Hid ((fun w' : World => w'.cell? ⟨w.heap.size, 1, none⟩ = some (.int .i64 e)) W.drew) := hide (HC.out _ ((Kx.refl _ _).drewN 1)).1
  have HU : Hid (∀ X s', US F1 B W.drew q s' X → Kx (fun x => ¬ F1 x ∧ ¬ F2 x) W X) := hide (fun X s' u => by obtain ⟨F', -, k, -⟩ := u; exact ((Kx.refl _ W).drewN 1).step (k.mono (fun x _ hx => hx.1)) (fun _ _ h => h))
  have HS1 : Hid (∀ X s', US F1 B W.drew q s' X → (fun w' : World => w'.cell? ⟨w.heap.size, 1, none⟩ = some (.int .i64 e)) X) := hide (fun X s' u => (HC.out _ (HU.out _ _ u)).1)
  have HS2 : Hid (∀ X Y s' s'', US F1 B W.drew q s' X → UB F2 B X b s'' Y → (fun w' : World => w'.cell? ⟨w.heap.size, 1, none⟩ = some (.int .i64 e)) Y) := hide (fun X Y s' s'' u v => by
    obtain ⟨F', -, k, -⟩ := v
    have hkk := (HU.out _ _ u).step k (fun x _ hx => hx.2)
    exact (HC.out _ hkk).1)
  have c0 : (w.alloc (.cells #[.int .i64 d, .int .i64 e, .int .i64 t, .int .i64 n, .bool g] 35)).cell? ⟨w.heap.size, 0, none⟩ = some (.int .i64 d) := by simp [go_sem]
  have HA : Hid (s1 = s2 → ((Bk.dpR s1 e).2 == (Bk.dpR s2 e).2) = true) := hide (fun h => by subst h; simp)
  generalize (Bk.dpR s1 e).2 = a1 at *
  generalize (Bk.dpR s2 e).2 = a2 at *
  clear h1 h2 hd w1 w2 _hB hk hb0 hWs HO1 HC hbd
  go_enter Try.func9, Try.ntmps9
  go_wp2
  rw [HW.out]
  have kc := HS0
  go_region_held3 (fun w' => w'.cell? ⟨w.heap.size, 1, none⟩ = some (.int .i64 e)) ((first | (with_reducible exact HS0.out) | (with_reducible exact HS1.out _ _ U1.out) | (with_reducible exact HS2.out _ _ _ _ U1.out U2.out) | go_keep)) ((first
    | (refine step_call_w (by rfl) 16 #[.pointer (some ⟨q, 0, none⟩), .int .i64 e] ?_ C1.out ?_; (focus (go_simp; done)); rintro v7 w7 ⟨rfl, u1⟩; have U1 := hide u1; clear u1)
    | (refine step_call_w (by rfl) 32 #[.pointer (some ⟨b, 0, none⟩), .int .i64 e] ?_ (C2.out _ U1.out) ?_; (focus (go_simp; done)); rintro v8 w8 ⟨rfl, u2⟩; have U2 := hide u2; clear u2)))
  go_wp2
  go_ret
  exact ⟨_, rfl, HA.out, HF.out _ _ U1.out U2.out⟩
theorem done_9 (h1 : SX F1 B w q s1) (h2 : BX F2 B w b s2) (hd : ∀ x, F1 x → ¬ F2 x) (w1 : Wf k1 s1) (w2 : Wf k2 s2) (hk : k1 ≤ 1000) (_hB : B ≤ w.heap.size) (d e t n : Int) (g : Bool) (hm : wrap64 ((IntKind.u64.wrap d).tmod 10) = 9) :
    Calls Try.prog 9 #[.pointer (some ⟨q, 0, none⟩), .pointer (some ⟨b, 0, none⟩), .agg #[.int .i64 d, .int .i64 e, .int .i64 t, .int .i64 n, .bool g]] w fun r w' => ∃ u, r = .returned (.bool u) ∧ (s1 = s2 → u = true) ∧ DN F1 F2 B w q b (Bk.op 9 e t n g s1) (Bk.op 9 e t n g s2) w' := by
  have HO1 : Hid (∀ s : Cst, Bk.op 9 e t n g s = Bk.dp s e) := hide (fun s => by simp [Bk.op])
  rw [HO1.out s1, HO1.out s2]
  obtain ⟨W, hW⟩ : ∃ W, w.alloc (.cells #[.int .i64 d, .int .i64 e, .int .i64 t, .int .i64 n, .bool g] 35) = W := ⟨_, rfl⟩
  have hb0 : Below w.heap.size w W := by rw [← hW]; exact (Below.refl _ _).alloc (Nat.le_refl _) _
  have hWs : W.heap.size = w.heap.size + 1 := by rw [← hW]; simp
  have HC : Hid (∀ X, Kx (fun x => ¬ F1 x ∧ ¬ F2 x) W X → X.cell? ⟨w.heap.size, 1, none⟩ = some (.int .i64 e) ∧ X.cell? ⟨w.heap.size, 2, none⟩ = some (.int .i64 t) ∧ X.cell? ⟨w.heap.size, 3, none⟩ = some (.int .i64 n) ∧ X.cell? ⟨w.heap.size, 4, none⟩ = some (.bool g)) := hide (fun X hX => by
    have hn : ¬ F1 w.heap.size ∧ ¬ F2 w.heap.size := ⟨fun h => by have := (h1.lt _ h).2; omega, fun h => by have := (h2.lt _ h).2; omega⟩
    subst W
    exact ⟨hX.cell (by simp [go_sem]) hn, hX.cell (by simp [go_sem]) hn, hX.cell (by simp [go_sem]) hn, hX.cell (by simp [go_sem]) hn⟩)
  have HW := hide hW
  clear hW
  have hbd : Below w.heap.size w W.drew := below_drewN hb0 1
  have C1 : Hid (Calls Try.prog 16 #[.pointer (some ⟨q, 0, none⟩), .int .i64 e] W.drew fun r w' => ∃ u, r = .returned u ∧ (u = .bool ((Bk.dpR s1 e).2) ∧ US F1 B W.drew q (Bk.dp s1 e) w')) := hide (((h1.keep (Kx.of_below (btrans hb0 (below_drewN (Below.refl _ _) 1)))).dp w1 hk e).mono (fun r w' h => ⟨_, h.1, rfl, h.2⟩))
  have C2 : Hid (∀ X, US F1 B W.drew q (Bk.dp s1 e) X → Calls Try.prog 32 #[.pointer (some ⟨b, 0, none⟩), .int .i64 e] X fun r w' => ∃ u, r = .returned u ∧ (u = .bool ((Bk.dpR s2 e).2) ∧ UB F2 B X b (Bk.dp s2 e) w')) := hide (fun X hX => ((h2.behind hd hbd hX).dp w2 e).mono (fun r w' h => ⟨_, h.1, rfl, h.2⟩))
  have HF : Hid (∀ X Y, US F1 B W.drew q (Bk.dp s1 e) X → UB F2 B X b (Bk.dp s2 e) Y → DN F1 F2 B w q b (Bk.dp s1 e) (Bk.dp s2 e) Y) := hide (fun X Y u1 u2 => DN.two h2 hd hbd u1 (Below.refl _ _) u2 (Below.refl _ _))
  have HS0 : Hid ((fun w' : World => w'.cell? ⟨w.heap.size, 1, none⟩ = some (.int .i64 e)) W.drew) := hide (HC.out _ ((Kx.refl _ _).drewN 1)).1
  have HU : Hid (∀ X s', US F1 B W.drew q s' X → Kx (fun x => ¬ F1 x ∧ ¬ F2 x) W X) := hide (fun X s' u => by obtain ⟨F', -, k, -⟩ := u; exact ((Kx.refl _ W).drewN 1).step (k.mono (fun x _ hx => hx.1)) (fun _ _ h => h))
  have HS1 : Hid (∀ X s', US F1 B W.drew q s' X → (fun w' : World => w'.cell? ⟨w.heap.size, 1, none⟩ = some (.int .i64 e)) X) := hide (fun X s' u => (HC.out _ (HU.out _ _ u)).1)
  have HS2 : Hid (∀ X Y s' s'', US F1 B W.drew q s' X → UB F2 B X b s'' Y → (fun w' : World => w'.cell? ⟨w.heap.size, 1, none⟩ = some (.int .i64 e)) Y) := hide (fun X Y s' s'' u v => by
    obtain ⟨F', -, k, -⟩ := v
    have hkk := (HU.out _ _ u).step k (fun x _ hx => hx.2)
    exact (HC.out _ hkk).1)
  have c0 : (w.alloc (.cells #[.int .i64 d, .int .i64 e, .int .i64 t, .int .i64 n, .bool g] 35)).cell? ⟨w.heap.size, 0, none⟩ = some (.int .i64 d) := by simp [go_sem]
  have HA : Hid (s1 = s2 → ((Bk.dpR s1 e).2 == (Bk.dpR s2 e).2) = true) := hide (fun h => by subst h; simp)
  generalize (Bk.dpR s1 e).2 = a1 at *
  generalize (Bk.dpR s2 e).2 = a2 at *
  clear h1 h2 hd w1 w2 _hB hk hb0 hWs HO1 HC hbd
  go_enter Try.func9, Try.ntmps9
  go_wp2
  rw [HW.out]
  have kc := HS0
  go_region_held3 (fun w' => w'.cell? ⟨w.heap.size, 1, none⟩ = some (.int .i64 e)) ((first | (with_reducible exact HS0.out) | (with_reducible exact HS1.out _ _ U1.out) | (with_reducible exact HS2.out _ _ _ _ U1.out U2.out) | go_keep)) ((first
    | (refine step_call_w (by rfl) 16 #[.pointer (some ⟨q, 0, none⟩), .int .i64 e] ?_ C1.out ?_; (focus (go_simp; done)); rintro v7 w7 ⟨rfl, u1⟩; have U1 := hide u1; clear u1)
    | (refine step_call_w (by rfl) 32 #[.pointer (some ⟨b, 0, none⟩), .int .i64 e] ?_ (C2.out _ U1.out) ?_; (focus (go_simp; done)); rintro v8 w8 ⟨rfl, u2⟩; have U2 := hide u2; clear u2)))
  go_wp2
  go_ret
  exact ⟨_, rfl, HA.out, HF.out _ _ U1.out U2.out⟩
end
end Go.Proofs.Ytbepaimbbclejaa

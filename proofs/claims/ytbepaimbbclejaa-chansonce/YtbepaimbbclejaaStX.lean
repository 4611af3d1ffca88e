import Derived.Test.YtbepaimbbclejaaStGd
import Derived.Deep.RegionHeld3
import Derived.ChangeKeysEq
/- Channels: a step by a store and by a book: Take. -/
namespace Go.Proofs.Ytbepaimbbclejaa
open Go.RowKit

set_option maxRecDepth 100000
set_option maxHeartbeats 2000000
theorem It.eql (a1 a2 b1 b2 : Int) (w : World) : Sem.run Try.prog (binOp .eql 59 (.agg #[.int .i64 a1, .int .i64 a2]) (.agg #[.int .i64 b1, .int .i64 b2])) w = .ok (.bool (a1 == b1 && a2 == b2)) w := by
  have u3 := Try.underlying3
  have a3 := Try.isAgg3
  have z3 := Try.sizeOf3
  have u2 := Try.underlying2
  have a2' := Try.isAgg2
  have z2 := Try.sizeOf2
  by_cases h1 : a1 = b1
  · subst h1
    by_cases h2 : a2 = b2
    · subst h2
      rw [run_eql_struct, show (10000 : Nat) = 9999 + 1 from rfl, run_equalIn_agg w 9999 59 _ _ (by exact Try.underlying59) (by kernel_rfl)]
      simp only [Program.fieldsOf, Try.underlying59]
      go_simp
    · have e2 : (a2 == b2) = false := beq_eq_false_iff_ne.2 h2
      rw [run_eql_struct, show (10000 : Nat) = 9999 + 1 from rfl, run_equalIn_agg w 9999 59 _ _ (by exact Try.underlying59) (by kernel_rfl)]
      simp only [Program.fieldsOf, Try.underlying59]
      go_simp
  · have e1 : (a1 == b1) = false := beq_eq_false_iff_ne.2 h1
    rw [run_eql_struct, show (10000 : Nat) = 9999 + 1 from rfl, run_equalIn_agg w 9999 59 _ _ (by exact Try.underlying59) (by kernel_rfl)]
    simp only [Program.fieldsOf, Try.underlying59]
    go_simp
section
variable {F1 F2 : Nat → Prop} {B : Nat} {w : World} {q b k1 k2 : Nat} {s1 s2 : Cst}
theorem done_5 (h1 : SX F1 B w q s1) (h2 : BX F2 B w b s2) (hd : ∀ x, F1 x → ¬ F2 x) (w1 : Wf k1 s1) (w2 : Wf k2 s2) (_hk : k1 ≤ 1000) (hB : B ≤ w.heap.size) (d e t n : Int) (g : Bool) (hm : wrap64 ((IntKind.u64.wrap d).tmod 10) = 5) :
    Calls Try.prog 9 #[.pointer (some ⟨q, 0, none⟩), .pointer (some ⟨b, 0, none⟩), .agg #[.int .i64 d, .int .i64 e, .int .i64 t, .int .i64 n, .bool g]] w fun r w' => ∃ u, r = .returned (.bool u) ∧ (s1 = s2 → u = true) ∧ DN F1 F2 B w q b (Bk.op 5 e t n g s1) (Bk.op 5 e t n g s2) w' := by
  have HO1 : Hid (∀ s : Cst, Bk.op 5 e t n g s = Bk.tk s e t) := hide (fun s => by simp [Bk.op])
  rw [HO1.out s1, HO1.out s2]
  obtain ⟨W, hW⟩ : ∃ W, w.alloc (.cells #[.int .i64 d, .int .i64 e, .int .i64 t, .int .i64 n, .bool g] 35) = W := ⟨_, rfl⟩
  have hb0 : Below w.heap.size w W := by rw [← hW]; exact (Below.refl _ _).alloc (Nat.le_refl _) _
  have hWs : W.heap.size = w.heap.size + 1 := by rw [← hW]; simp
  have HC : Hid (∀ X, Kx (fun x => ¬ F1 x ∧ ¬ F2 x) W X → X.cell? ⟨w.heap.size, 1, none⟩ = some (.int .i64 e) ∧ X.cell? ⟨w.heap.size, 2, none⟩ = some (.int .i64 t) ∧ X.cell? ⟨w.heap.size, 3, none⟩ = some (.int .i64 n) ∧ X.cell? ⟨w.heap.size, 4, none⟩ = some (.bool g)) := hide (fun X hX => by
    have hn : ¬ F1 w.heap.size ∧ ¬ F2 w.heap.size := ⟨fun h => by have := (h1.lt _ h).2; omega, fun h => by have := (h2.lt _ h).2; omega⟩
    subst W
    exact ⟨hX.cell (by simp [go_sem]) hn, hX.cell (by simp [go_sem]) hn, hX.cell (by simp [go_sem]) hn, hX.cell (by simp [go_sem]) hn⟩)
  have HW := hide hW
  clear hW
  have C1 := hide ((h1.keep (Kx.of_below hb0)).tk w1 (Nat.le_trans hB hb0.size) e t)
  have C2 : Hid (∀ X Y, US F1 B W q (Bk.tk s1 e t) X → Below X.heap.size X Y → Calls Try.prog 31 #[.pointer (some ⟨b, 0, none⟩), .int .i64 e, .int .i64 t] Y fun r w' => r = .returned (.tuple #[.agg #[.int .i64 (Bk.tkR s2 e t).1.1, .int .i64 (Bk.tkR s2 e t).1.2], .int .i64 (Bk.tkR s2 e t).2]) ∧ UB F2 B Y b (Bk.tk s2 e t) w') := hide (fun X Y hX hY => ((h2.behind hd hb0 hX).keep (Kx.of_below hY)).tk w2 e t)
  have HF : Hid (∀ X Y Z V, US F1 B W q (Bk.tk s1 e t) X → Below X.heap.size X Y → UB F2 B Y b (Bk.tk s2 e t) Z → Below Z.heap.size Z V → DN F1 F2 B w q b (Bk.tk s1 e t) (Bk.tk s2 e t) V) := hide (fun X Y Z V u1 hb u2 hb2 => DN.two h2 hd hb0 u1 hb u2 hb2)
  have HU : Hid (∀ X s', US F1 B W q s' X → Kx (fun x => ¬ F1 x ∧ ¬ F2 x) W X ∧ W.heap.size ≤ X.heap.size) := hide (fun X s' u => by obtain ⟨F', -, k, -⟩ := u; exact ⟨k.mono (fun x _ hx => hx.1), k.size⟩)
  have HB2 : Hid (∀ X Y s', UB F2 B X b s' Y → Kx (fun x => ¬ F2 x) X Y) := hide (fun X Y s' u => by obtain ⟨F', -, k, -⟩ := u; exact k)
  have HN : Hid (∀ x, w.heap.size ≤ x → ¬ F1 x ∧ ¬ F2 x) := hide (fun x hx => ⟨fun h => by have := (h1.lt _ h).2; omega, fun h => by have := (h2.lt _ h).2; omega⟩)
  obtain ⟨c1, c2, c3, c4⟩ := HC.out W (Kx.refl _ _)
  rw [← HW.out] at c1 c2 c3 c4
  have c0 : (w.alloc (.cells #[.int .i64 d, .int .i64 e, .int .i64 t, .int .i64 n, .bool g] 35)).cell? ⟨w.heap.size, 0, none⟩ = some (.int .i64 d) := by simp [go_sem]
  have HA : Hid (s1 = s2 → Bk.tkR s1 e t = Bk.tkR s2 e t) := hide (fun h => by rw [h])
  obtain ⟨⟨⟨a1, a2⟩, a3⟩, ha⟩ : ∃ a, Bk.tkR s1 e t = a := ⟨_, rfl⟩
  obtain ⟨⟨⟨b1, b2⟩, b3⟩, hbb⟩ : ∃ a, Bk.tkR s2 e t = a := ⟨_, rfl⟩
  rw [ha] at C1 HA
  rw [hbb] at C2 HA
  simp only at C1 C2
  have HA2 : Hid (s1 = s2 → a1 = b1 ∧ a2 = b2 ∧ a3 = b3) := hide (fun h => by
    have := HA.out h
    simp only [Prod.mk.injEq] at this
    exact ⟨this.1.1, this.1.2, this.2⟩)
  clear h1 h2 hd w1 w2 hB _hk hb0 HO1 HA ha hbb
  go_enter Try.func9, Try.ntmps9
  go_wp2_with fail
  rw [HW.out]
  refine C1.out.mono ?_
  rintro r1 X1 ⟨rfl, u1⟩
  obtain ⟨hk1, hs1⟩ := HU.out _ _ u1
  have hbY : Below X1.heap.size X1 (X1.alloc (.cells #[.int .i64 a1, .int .i64 a2] 59)) := (Below.refl _ _).alloc (Nat.le_refl _) _
  obtain ⟨d1, d2, d3, d4⟩ := HC.out _ (hk1.step (Kx.of_below (X := fun _ => True) hbY) (fun _ _ _ => trivial))
  have y0 : (X1.alloc (.cells #[.int .i64 a1, .int .i64 a2] 59)).cell? ⟨X1.heap.size, 0, none⟩ = some (.int .i64 a1) ∧ (X1.alloc (.cells #[.int .i64 a1, .int .i64 a2] 59)).cell? ⟨X1.heap.size, 1, none⟩ = some (.int .i64 a2) := by constructor <;> simp [go_sem]
  have HU1 := hide (And.intro u1 hbY)
  have hX1 : w.heap.size ≤ X1.heap.size := by omega
  clear u1 c0 c1 c2 c3 c4 hbY
  go_wp2_with fail
  refine (C2.out X1 _ HU1.out.1 HU1.out.2).mono ?_
  rintro r2 X2 ⟨rfl, u2⟩
  have hk2 := HB2.out _ _ _ u2
  have z0 := hk2.cell y0.1 (HN.out X1.heap.size hX1).2
  have z1 := hk2.cell y0.2 (HN.out X1.heap.size hX1).2
  have hbZ : Below X2.heap.size X2 (X2.alloc (.cells #[.int .i64 b1, .int .i64 b2] 59)) := (Below.refl _ _).alloc (Nat.le_refl _) _
  have z0 := bsome hbZ z0
  have z1 := bsome hbZ z1
  have HR := hide (HF.out _ _ _ _ HU1.out.1 HU1.out.2 u2 hbZ)
  clear u2 hk2 hbZ y0 d1 d2 d3 d4
  by_cases e1 : a1 = b1 ∧ a2 = b2
  · obtain ⟨rfl, rfl⟩ := e1
    have HE : ∀ w : World, Sem.run Try.prog (binOp .eql 59 (.agg #[.int .i64 a1, .int .i64 a2]) (.agg #[.int .i64 a1, .int .i64 a2])) w = .ok (.bool true) w := fun w => by rw [It.eql]; simp
    have HA3 : Hid (s1 = s2 → (a3 == b3) = true) := hide (fun h => by rw [(HA2.out h).2.2]; simp)
    go_wp2
    go_ret
    exact ⟨_, rfl, HA3.out, HR.out⟩
  · have g1 : (a1 == b1 && a2 == b2) = false := by
      rw [Bool.and_eq_false_iff, beq_eq_false_iff_ne, beq_eq_false_iff_ne]
      by_cases h : a1 = b1
      · exact .inr (fun h2 => e1 ⟨h, h2⟩)
      · exact .inl h
    have HE : ∀ w : World, Sem.run Try.prog (binOp .eql 59 (.agg #[.int .i64 a1, .int .i64 a2]) (.agg #[.int .i64 b1, .int .i64 b2])) w = .ok (.bool false) w := fun w => by rw [It.eql, g1]
    have HA3 : Hid (s1 = s2 → False) := hide (fun h => e1 ⟨(HA2.out h).1, (HA2.out h).2.1⟩)
    clear e1 g1
    go_wp2
    go_ret
    exact ⟨_, rfl, fun h => (HA3.out h).elim, HR.out⟩
theorem done_6 (h1 : SX F1 B w q s1) (h2 : BX F2 B w b s2) (hd : ∀ x, F1 x → ¬ F2 x) (w1 : Wf k1 s1) (w2 : Wf k2 s2) (_hk : k1 ≤ 1000) (hB : B ≤ w.heap.size) (d e t n : Int) (g : Bool) (hm : wrap64 ((IntKind.u64.wrap d).tmod 10) = 6) :
    Calls Try.prog 9 #[.pointer (some ⟨q, 0, none⟩), .pointer (some ⟨b, 0, none⟩), .agg #[.int .i64 d, .int .i64 e, .int .i64 t, .int .i64 n, .bool g]] w fun r w' => ∃ u, r = .returned (.bool u) ∧ (s1 = s2 → u = true) ∧ DN F1 F2 B w q b (Bk.op 6 e t n g s1) (Bk.op 6 e t n g s2) w' := by
  have HO1 : Hid (∀ s : Cst, Bk.op 6 e t n g s = Bk.tk s e t) := hide (fun s => by simp [Bk.op])
  rw [HO1.out s1, HO1.out s2]
  obtain ⟨W, hW⟩ : ∃ W, w.alloc (.cells #[.int .i64 d, .int .i64 e, .int .i64 t, .int .i64 n, .bool g] 35) = W := ⟨_, rfl⟩
  have hb0 : Below w.heap.size w W := by rw [← hW]; exact (Below.refl _ _).alloc (Nat.le_refl _) _
  have hWs : W.heap.size = w.heap.size + 1 := by rw [← hW]; simp
  have HC : Hid (∀ X, Kx (fun x => ¬ F1 x ∧ ¬ F2 x) W X → X.cell? ⟨w.heap.size, 1, none⟩ = some (.int .i64 e) ∧ X.cell? ⟨w.heap.size, 2, none⟩ = some (.int .i64 t) ∧ X.cell? ⟨w.heap.size, 3, none⟩ = some (.int .i64 n) ∧ X.cell? ⟨w.heap.size, 4, none⟩ = some (.bool g)) := hide (fun X hX => by
    have hn : ¬ F1 w.heap.size ∧ ¬ F2 w.heap.size := ⟨fun h => by have := (h1.lt _ h).2; omega, fun h => by have := (h2.lt _ h).2; omega⟩
    subst W
    exact ⟨hX.cell (by simp [go_sem]) hn, hX.cell (by simp [go_sem]) hn, hX.cell (by simp [go_sem]) hn, hX.cell (by simp [go_sem]) hn⟩)
  have HW := hide hW
  clear hW
  have C1 := hide ((h1.keep (Kx.of_below hb0)).tk w1 (Nat.le_trans hB hb0.size) e t)
  have C2 : Hid (∀ X Y, US F1 B W q (Bk.tk s1 e t) X → Below X.heap.size X Y → Calls Try.prog 31 #[.pointer (some ⟨b, 0, none⟩), .int .i64 e, .int .i64 t] Y fun r w' => r = .returned (.tuple #[.agg #[.int .i64 (Bk.tkR s2 e t).1.1, .int .i64 (Bk.tkR s2 e t).1.2], .int .i64 (Bk.tkR s2 e t).2]) ∧ UB F2 B Y b (Bk.tk s2 e t) w') := hide (fun X Y hX hY => ((h2.behind hd hb0 hX).keep (Kx.of_below hY)).tk w2 e t)
  have HF : Hid (∀ X Y Z V, US F1 B W q (Bk.tk s1 e t) X → Below X.heap.size X Y → UB F2 B Y b (Bk.tk s2 e t) Z → Below Z.heap.size Z V → DN F1 F2 B w q b (Bk.tk s1 e t) (Bk.tk s2 e t) V) := hide (fun X Y Z V u1 hb u2 hb2 => DN.two h2 hd hb0 u1 hb u2 hb2)
  have HU : Hid (∀ X s', US F1 B W q s' X → Kx (fun x => ¬ F1 x ∧ ¬ F2 x) W X ∧ W.heap.size ≤ X.heap.size) := hide (fun X s' u => by obtain ⟨F', -, k, -⟩ := u; exact ⟨k.mono (fun x _ hx => hx.1), k.size⟩)
  have HB2 : Hid (∀ X Y s', UB F2 B X b s' Y → Kx (fun x => ¬ F2 x) X Y) := hide (fun X Y s' u => by obtain ⟨F', -, k, -⟩ := u; exact k)
  have HN : Hid (∀ x, w.heap.size ≤ x → ¬ F1 x ∧ ¬ F2 x) := hide (fun x hx => ⟨fun h => by have := (h1.lt _ h).2; omega, fun h => by have := (h2.lt _ h).2; omega⟩)
  obtain ⟨c1, c2, c3, c4⟩ := HC.out W (Kx.refl _ _)
  rw [← HW.out] at c1 c2 c3 c4
  have c0 : (w.alloc (.cells #[.int .i64 d, .int .i64 e, .int .i64 t, .int .i64 n, .bool g] 35)).cell? ⟨w.heap.size, 0, none⟩ = some (.int .i64 d) := by simp [go_sem]
  have HA : Hid (s1 = s2 → Bk.tkR s1 e t = Bk.tkR s2 e t) := hide (fun h => by rw [h])
  obtain ⟨⟨⟨a1, a2⟩, a3⟩, ha⟩ : ∃ a, Bk.tkR s1 e t = a := ⟨_, rfl⟩
  obtain ⟨⟨⟨b1, b2⟩, b3⟩, hbb⟩ : ∃ a, Bk.tkR s2 e t = a := ⟨_, rfl⟩
  rw [ha] at C1 HA
  rw [hbb] at C2 HA
  simp only at C1 C2
  have HA2 : Hid (s1 = s2 → a1 = b1 ∧ a2 = b2 ∧ a3 = b3) := hide (fun h => by
    have := HA.out h
    simp only [Prod.mk.injEq] at this
    exact ⟨this.1.1, this.1.2, this.2⟩)
  clear h1 h2 hd w1 w2 hB _hk hb0 HO1 HA ha hbb
  go_enter Try.func9, Try.ntmps9
  go_wp2_with fail
  rw [HW.out]
  refine C1.out.mono ?_
  rintro r1 X1 ⟨rfl, u1⟩
  obtain ⟨hk1, hs1⟩ := HU.out _ _ u1
  have hbY : Below X1.heap.size X1 (X1.alloc (.cells #[.int .i64 a1, .int .i64 a2] 59)) := (Below.refl _ _).alloc (Nat.le_refl _) _
  obtain ⟨d1, d2, d3, d4⟩ := HC.out _ (hk1.step (Kx.of_below (X := fun _ => True) hbY) (fun _ _ _ => trivial))
  have y0 : (X1.alloc (.cells #[.int .i64 a1, .int .i64 a2] 59)).cell? ⟨X1.heap.size, 0, none⟩ = some (.int .i64 a1) ∧ (X1.alloc (.cells #[.int .i64 a1, .int .i64 a2] 59)).cell? ⟨X1.heap.size, 1, none⟩ = some (.int .i64 a2) := by constructor <;> simp [go_sem]
  have HU1 := hide (And.intro u1 hbY)
  have hX1 : w.heap.size ≤ X1.heap.size := by omega
  clear u1 c0 c1 c2 c3 c4 hbY
  go_wp2_with fail
  refine (C2.out X1 _ HU1.out.1 HU1.out.2).mono ?_
  rintro r2 X2 ⟨rfl, u2⟩
  have hk2 := HB2.out _ _ _ u2
  have z0 := hk2.cell y0.1 (HN.out X1.heap.size hX1).2
  have z1 := hk2.cell y0.2 (HN.out X1.heap.size hX1).2
  have hbZ : Below X2.heap.size X2 (X2.alloc (.cells #[.int .i64 b1, .int .i64 b2] 59)) := (Below.refl _ _).alloc (Nat.le_refl _) _
  have z0 := bsome hbZ z0
  have z1 := bsome hbZ z1
  have HR := hide (HF.out _ _ _ _ HU1.out.1 HU1.out.2 u2 hbZ)
  clear u2 hk2 hbZ y0 d1 d2 d3 d4
  by_cases e1 : a1 = b1 ∧ a2 = b2
  · obtain ⟨rfl, rfl⟩ := e1
    have HE : ∀ w : World, Sem.run Try.prog (binOp .eql 59 (.agg #[.int .i64 a1, .int .i64 a2]) (.agg #[.int .i64 a1, .int .i64 a2])) w = .ok (.bool true) w := fun w => by rw [It.eql]; simp
    have HA3 : Hid (s1 = s2 → (a3 == b3) = true) := hide (fun h => by rw [(HA2.out h).2.2]; simp)
    go_wp2
    go_ret
    exact ⟨_, rfl, HA3.out, HR.out⟩
  · have g1 : (a1 == b1 && a2 == b2) = false := by
      rw [Bool.and_eq_false_iff, beq_eq_false_iff_ne, beq_eq_false_iff_ne]
      by_cases h : a1 = b1
      · exact .inr (fun h2 => e1 ⟨h, h2⟩)
      · exact .inl h
    have HE : ∀ w : World, Sem.run Try.prog (binOp .eql 59 (.agg #[.int .i64 a1, .int .i64 a2]) (.agg #[.int .i64 b1, .int .i64 b2])) w = .ok (.bool false) w := fun w => by rw [It.eql, g1]
    have HA3 : Hid (s1 = s2 → False) := hide (fun h => e1 ⟨(HA2.out h).1, (HA2.out h).2.1⟩)
    clear e1 g1
    go_wp2
    go_ret
    exact ⟨_, rfl, fun h => (HA3.out h).elim, HR.out⟩
theorem done_7 (h1 : SX F1 B w q s1) (h2 : BX F2 B w b s2) (hd : ∀ x, F1 x → ¬ F2 x) (w1 : Wf k1 s1) (w2 : Wf k2 s2) (_hk : k1 ≤ 1000) (hB : B ≤ w.heap.size) (d e t n : Int) (g : Bool) (hm : wrap64 ((IntKind.u64.wrap d).tmod 10) = 7) :
    Calls Try.prog 9 #[.pointer (some ⟨q, 0, none⟩), .pointer (some ⟨b, 0, none⟩), .agg #[.int .i64 d, .int .i64 e, .int .i64 t, .int .i64 n, .bool g]] w fun r w' => ∃ u, r = .returned (.bool u) ∧ (s1 = s2 → u = true) ∧ DN F1 F2 B w q b (Bk.op 7 e t n g s1) (Bk.op 7 e t n g s2) w' := by
  have HO1 : Hid (∀ s : Cst, Bk.op 7 e t n g s = Bk.tk s e t) := hide (fun s => by simp [Bk.op])
  rw [HO1.out s1, HO1.out s2]
  obtain ⟨W, hW⟩ : ∃ W, w.alloc (.cells #[.int .i64 d, .int .i64 e, .int .i64 t, .int .i64 n, .bool g] 35) = W := ⟨_, rfl⟩
  have hb0 : Below w.heap.size w W := by rw [← hW]; exact (Below.refl _ _).alloc (Nat.le_refl _) _
  have hWs : W.heap.size = w.heap.size + 1 := by rw [← hW]; simp
  have HC : Hid (∀ X, Kx (fun x => ¬ F1 x ∧ ¬ F2 x) W X → X.cell? ⟨w.heap.size, 1, none⟩ = some (.int .i64 e) ∧ X.cell? ⟨w.heap.size, 2, none⟩ = some (.int .i64 t) ∧ X.cell? ⟨w.heap.size, 3, none⟩ = some (.int .i64 n) ∧ X.cell? ⟨w.heap.size, 4, none⟩ = some (.bool g)) := hide (fun X hX => by
    have hn : ¬ F1 w.heap.size ∧ ¬ F2 w.heap.size := ⟨fun h => by have := (h1.lt _ h).2; omega, fun h => by have := (h2.lt _ h).2; omega⟩
    subst W
    exact ⟨hX.cell (by simp [go_sem]) hn, hX.cell (by simp [go_sem]) hn, hX.cell (by simp [go_sem]) hn, hX.cell (by simp [go_sem]) hn⟩)
  have HW := hide hW
  clear hW
  have C1 := hide ((h1.keep (Kx.of_below hb0)).tk w1 (Nat.le_trans hB hb0.size) e t)
  have C2 : Hid (∀ X Y, US F1 B W q (Bk.tk s1 e t) X → Below X.heap.size X Y → Calls Try.prog 31 #[.pointer (some ⟨b, 0, none⟩), .int .i64 e, .int .i64 t] Y fun r w' => r = .returned (.tuple #[.agg #[.int .i64 (Bk.tkR s2 e t).1.1, .int .i64 (Bk.tkR s2 e t).1.2], .int .i64 (Bk.tkR s2 e t).2]) ∧ UB F2 B Y b (Bk.tk s2 e t) w') := hide (fun X Y hX hY => ((h2.behind hd hb0 hX).keep (Kx.of_below hY)).tk w2 e t)
  have HF : Hid (∀ X Y Z V, US F1 B W q (Bk.tk s1 e t) X → Below X.heap.size X Y → UB F2 B Y b (Bk.tk s2 e t) Z → Below Z.heap.size Z V → DN F1 F2 B w q b (Bk.tk s1 e t) (Bk.tk s2 e t) V) := hide (fun X Y Z V u1 hb u2 hb2 => DN.two h2 hd hb0 u1 hb u2 hb2)
  have HU : Hid (∀ X s', US F1 B W q s' X → Kx (fun x => ¬ F1 x ∧ ¬ F2 x) W X ∧ W.heap.size ≤ X.heap.size) := hide (fun X s' u => by obtain ⟨F', -, k, -⟩ := u; exact ⟨k.mono (fun x _ hx => hx.1), k.size⟩)
  have HB2 : Hid (∀ X Y s', UB F2 B X b s' Y → Kx (fun x => ¬ F2 x) X Y) := hide (fun X Y s' u => by obtain ⟨F', -, k, -⟩ := u; exact k)
  have HN : Hid (∀ x, w.heap.size ≤ x → ¬ F1 x ∧ ¬ F2 x) := hide (fun x hx => ⟨fun h => by have := (h1.lt _ h).2; omega, fun h => by have := (h2.lt _ h).2; omega⟩)
  obtain ⟨c1, c2, c3, c4⟩ := HC.out W (Kx.refl _ _)
  rw [← HW.out] at c1 c2 c3 c4
  have c0 : (w.alloc (.cells #[.int .i64 d, .int .i64 e, .int .i64 t, .int .i64 n, .bool g] 35)).cell? ⟨w.heap.size, 0, none⟩ = some (.int .i64 d) := by simp [go_sem]
  have HA : Hid (s1 = s2 → Bk.tkR s1 e t = Bk.tkR s2 e t) := hide (fun h => by rw [h])
  obtain ⟨⟨⟨a1, a2⟩, a3⟩, ha⟩ : ∃ a, Bk.tkR s1 e t = a := ⟨_, rfl⟩
  obtain ⟨⟨⟨b1, b2⟩, b3⟩, hbb⟩ : ∃ a, Bk.tkR s2 e t = a := ⟨_, rfl⟩
  rw [ha] at C1 HA
  rw [hbb] at C2 HA
  simp only at C1 C2
  have HA2 : Hid (s1 = s2 → a1 = b1 ∧ a2 = b2 ∧ a3 = b3) := hide (fun h => by
    have := HA.out h
    simp only [Prod.mk.injEq] at this
    exact ⟨this.1.1, this.1.2, this.2⟩)
  clear h1 h2 hd w1 w2 hB _hk hb0 HO1 HA ha hbb
  go_enter Try.func9, Try.ntmps9
  go_wp2_with fail
  rw [HW.out]
  refine C1.out.mono ?_
  rintro r1 X1 ⟨rfl, u1⟩
  obtain ⟨hk1, hs1⟩ := HU.out _ _ u1
  have hbY : Below X1.heap.size X1 (X1.alloc (.cells #[.int .i64 a1, .int .i64 a2] 59)) := (Below.refl _ _).alloc (Nat.le_refl _) _
  obtain ⟨d1, d2, d3, d4⟩ := HC.out _ (hk1.step (Kx.of_below (X := fun _ => True) hbY) (fun _ _ _ => trivial))
  have y0 : (X1.alloc (.cells #[.int .i64 a1, .int .i64 a2] 59)).cell? ⟨X1.heap.size, 0, none⟩ = some (.int .i64 a1) ∧ (X1.alloc (.cells #[.int .i64 a1, .int .i64 a2] 59)).cell? ⟨X1.heap.size, 1, none⟩ = some (.int .i64 a2) := by constructor <;> simp [go_sem]
  have HU1 := hide (And.intro u1 hbY)
  have hX1 : w.heap.size ≤ X1.heap.size := by omega
  clear u1 c0 c1 c2 c3 c4 hbY
  go_wp2_with fail
  refine (C2.out X1 _ HU1.out.1 HU1.out.2).mono ?_
  rintro r2 X2 ⟨rfl, u2⟩
  have hk2 := HB2.out _ _ _ u2
  have z0 := hk2.cell y0.1 (HN.out X1.heap.size hX1).2
  have z1 := hk2.cell y0.2 (HN.out X1.heap.size hX1).2
  have hbZ : Below X2.heap.size X2 (X2.alloc (.cells #[.int .i64 b1, .int .i64 b2] 59)) := (Below.refl _ _).alloc (Nat.le_refl _) _
  have z0 := bsome hbZ z0
  have z1 := bsome hbZ z1
  have HR := hide (HF.out _ _ _ _ HU1.out.1 HU1.out.2 u2 hbZ)
  clear u2 hk2 hbZ y0 d1 d2 d3 d4
  by_cases e1 : a1 = b1 ∧ a2 = b2
  · obtain ⟨rfl, rfl⟩ := e1
    have HE : ∀ w : World, Sem.run Try.prog (binOp .eql 59 (.agg #[.int .i64 a1, .int .i64 a2]) (.agg #[.int .i64 a1, .int .i64 a2])) w = .ok (.bool true) w := fun w => by rw [It.eql]; simp
    have HA3 : Hid (s1 = s2 → (a3 == b3) = true) := hide (fun h => by rw [(HA2.out h).2.2]; simp)
    go_wp2
    go_ret
    exact ⟨_, rfl, HA3.out, HR.out⟩
  · have g1 : (a1 == b1 && a2 == b2) = false := by
      rw [Bool.and_eq_false_iff, beq_eq_false_iff_ne, beq_eq_false_iff_ne]
      by_cases h : a1 = b1
      · exact .inr (fun h2 => e1 ⟨h, h2⟩)
      · exact .inl h
    have HE : ∀ w : World, Sem.run Try.prog (binOp .eql 59 (.agg #[.int .i64 a1, .int .i64 a2]) (.agg #[.int .i64 b1, .int .i64 b2])) w = .ok (.bool false) w := fun w => by rw [It.eql, g1]
    have HA3 : Hid (s1 = s2 → False) := hide (fun h => e1 ⟨(HA2.out h).1, (HA2.out h).2.1⟩)
    clear e1 g1
    go_wp2
    go_ret
    exact ⟨_, rfl, fun h => (HA3.out h).elim, HR.out⟩
end
end Go.Proofs.Ytbepaimbbclejaa

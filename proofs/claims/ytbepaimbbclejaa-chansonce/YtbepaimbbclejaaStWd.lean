import Derived.Test.YtbepaimbbclejaaStGd
import Derived.Deep.RegionHeld3
import Derived.ChangeKeysEq
/- Channels: a step by a store and by a book: Put (2). -/
namespace Go.Proofs.Ytbepaimbbclejaa
open Go.RowKit

set_option maxRecDepth 100000
set_option maxHeartbeats 2000000
section
variable {F1 F2 : Nat → Prop} {B : Nat} {w : World} {q b k1 k2 : Nat} {s1 s2 : Cst}
theorem done_2 (h1 : SX F1 B w q s1) (h2 : BX F2 B w b s2) (hd : ∀ x, F1 x → ¬ F2 x) (w1 : Wf k1 s1) (w2 : Wf k2 s2) (hk : k1 ≤ 1000) (hB : B ≤ w.heap.size) (d e t n : Int) (g : Bool) (hm : wrap64 ((IntKind.u64.wrap d).tmod 10) = 2) :
    Calls Try.prog 9 #[.pointer (some ⟨q, 0, none⟩), .pointer (some ⟨b, 0, none⟩), .agg #[.int .i64 d, .int .i64 e, .int .i64 t, .int .i64 n, .bool g]] w fun r w' => ∃ u, r = .returned (.bool u) ∧ (s1 = s2 → u = true) ∧ DN F1 F2 B w q b (Bk.op 2 e t n g s1) (Bk.op 2 e t n g s2) w' := by
  have HO1 : Hid (∀ s : Cst, Bk.op 2 e t n g s = Bk.pt s e n (Bk.en t n g)) := hide (fun s => by simp [Bk.op])
  rw [HO1.out s1, HO1.out s2]
  obtain ⟨W, hW⟩ : ∃ W, w.alloc (.cells #[.int .i64 d, .int .i64 e, .int .i64 t, .int .i64 n, .bool g] 35) = W := ⟨_, rfl⟩
  have hb0 : Below w.heap.size w W := by rw [← hW]; exact (Below.refl _ _).alloc (Nat.le_refl _) _
  have hWs : W.heap.size = w.heap.size + 1 := by rw [← hW]; simp
  have HC : Hid (∀ X, Kx (fun x => ¬ F1 x ∧ ¬ F2 x) W X → X.cell? ⟨w.heap.size, 1, none⟩ = some (.int .i64 e) ∧ X.cell? ⟨w.heap.size, 2, none⟩ = some (.int .i64 t) ∧ X.cell? ⟨w.heap.size, 3, none⟩ = some (.int .i64 n) ∧ X.cell? ⟨w.heap.size, 4, none⟩ = some (.bool g)) := hide (fun X hX => by
    have hn : ¬ F1 w.heap.size ∧ ¬ F2 w.heap.size := ⟨fun h => by have := (h1.lt _ h).2; omega, fun h => by have := (h2.lt _ h).2; omega⟩
    subst W
    exact ⟨hX.cell (by simp [go_sem]) hn, hX.cell (by simp [go_sem]) hn, hX.cell (by simp [go_sem]) hn, hX.cell (by simp [go_sem]) hn⟩)
  have HW := hide hW
  clear hW
  obtain ⟨en, hen⟩ : ∃ en, Bk.en t n g = en := ⟨_, rfl⟩
  rw [hen]
  have C1 : Hid (∀ X, Below w.heap.size w X → Calls Try.prog 18 #[.pointer (some ⟨q, 0, none⟩), .int .i64 e, .agg #[.int .i64 n, .int .i64 en]] X fun r w' => ∃ u, r = .returned u ∧ (u = .bool (Bk.ptQ s1 e en) ∧ US F1 B X q (Bk.pt s1 e n en) w')) := hide (fun X hX => ((h1.keep (Kx.of_below hX)).pt w1 hk (Nat.le_trans hB hX.size) e n en).mono (fun r w' h => ⟨_, h.1, rfl, h.2⟩))
  have C2 : Hid (∀ X Y, Below w.heap.size w X → US F1 B X q (Bk.pt s1 e n en) Y → Calls Try.prog 30 #[.pointer (some ⟨b, 0, none⟩), .int .i64 e, .agg #[.int .i64 n, .int .i64 en]] Y fun r w' => ∃ u, r = .returned u ∧ (u = .bool (Bk.ptQ s2 e en) ∧ UB F2 B Y b (Bk.pt s2 e n en) w')) := hide (fun X Y hX hY => ((h2.behind hd hX hY).pt w2 (by obtain ⟨F', -, k, -⟩ := hY; have := k.size; have := hX.size; omega) e n en).mono (fun r w' h => ⟨_, h.1, rfl, h.2⟩))
  have HF : Hid (∀ X Y Z, Below w.heap.size w X → US F1 B X q (Bk.pt s1 e n en) Y → UB F2 B Y b (Bk.pt s2 e n en) Z → DN F1 F2 B w q b (Bk.pt s1 e n en) (Bk.pt s2 e n en) Z) := hide (fun X Y Z hX u1 u2 => DN.two h2 hd hX u1 (Below.refl _ _) u2 (Below.refl _ _))
  have HV : Hid (∀ Y : World, Kx (fun x => ¬ F1 x ∧ ¬ F2 x) (W.alloc (.cells #[.int .i64 n, .int .i64 en] 59)) Y → Y.cell? ⟨w.heap.size, 1, none⟩ = some (.int .i64 e) ∧ Y.cell? ⟨w.heap.size + 1, 0, none⟩ = some (.int .i64 n) ∧ Y.cell? ⟨w.heap.size + 1, 1, none⟩ = some (.int .i64 en)) := hide (fun Y hY => by
    have hn : ¬ F1 (w.heap.size + 1) ∧ ¬ F2 (w.heap.size + 1) := ⟨fun h => by have := (h1.lt _ h).2; omega, fun h => by have := (h2.lt _ h).2; omega⟩
    refine ⟨(HC.out Y (((Kx.refl _ W).alloc _).step hY (fun _ _ h => h))).1, hY.cell ?_ hn, hY.cell ?_ hn⟩
    · rw [← hWs]; simp [go_sem]
    · rw [← hWs]; simp [go_sem])
  have hbV : Below w.heap.size w (W.alloc (.cells #[.int .i64 n, .int .i64 en] 59)).drew := below_drewN (hb0.alloc hb0.size _) 1
  have HBV := hide hbV
  obtain ⟨c1, c2, c3, c4⟩ := HC.out W (Kx.refl _ _)
  obtain ⟨x1, x2, x3, x4⟩ := And.intro c1 (And.intro c2 (And.intro c3 c4))
  rw [← HW.out] at c1 c2 c3 c4
  have c0 : (w.alloc (.cells #[.int .i64 d, .int .i64 e, .int .i64 t, .int .i64 n, .bool g] 35)).cell? ⟨w.heap.size, 0, none⟩ = some (.int .i64 d) := by simp [go_sem]
  have HS0 : Hid ((W.alloc (.cells #[.int .i64 n, .int .i64 en] 59)).drew.cell? ⟨w.heap.size, 1, none⟩ = some (.int .i64 e) ∧ (W.alloc (.cells #[.int .i64 n, .int .i64 en] 59)).drew.cell? ⟨w.heap.size + 1, 0, none⟩ = some (.int .i64 n) ∧ (W.alloc (.cells #[.int .i64 n, .int .i64 en] 59)).drew.cell? ⟨w.heap.size + 1, 1, none⟩ = some (.int .i64 en)) := hide (HV.out _ ((Kx.refl _ _).drewN 1))
  have HU : Hid (∀ X s', US F1 B (W.alloc (.cells #[.int .i64 n, .int .i64 en] 59)).drew q s' X → Kx (fun x => ¬ F1 x ∧ ¬ F2 x) (W.alloc (.cells #[.int .i64 n, .int .i64 en] 59)) X) := hide (fun X s' u => by obtain ⟨F', -, k, -⟩ := u; exact ((Kx.refl _ _).drewN 1).step (k.mono (fun x _ hx => hx.1)) (fun _ _ h => h))
  have HS1 : Hid (∀ X s', US F1 B (W.alloc (.cells #[.int .i64 n, .int .i64 en] 59)).drew q s' X → X.cell? ⟨w.heap.size, 1, none⟩ = some (.int .i64 e) ∧ X.cell? ⟨w.heap.size + 1, 0, none⟩ = some (.int .i64 n) ∧ X.cell? ⟨w.heap.size + 1, 1, none⟩ = some (.int .i64 en)) := hide (fun X s' u => HV.out _ (HU.out _ _ u))
  have HS2 : Hid (∀ X Y s' s'', US F1 B (W.alloc (.cells #[.int .i64 n, .int .i64 en] 59)).drew q s' X → UB F2 B X b s'' Y → Y.cell? ⟨w.heap.size, 1, none⟩ = some (.int .i64 e) ∧ Y.cell? ⟨w.heap.size + 1, 0, none⟩ = some (.int .i64 n) ∧ Y.cell? ⟨w.heap.size + 1, 1, none⟩ = some (.int .i64 en)) := hide (fun X Y s' s'' u v => by
    obtain ⟨F', -, k, -⟩ := v
    exact HV.out _ ((HU.out _ _ u).step k (fun x _ hx => hx.2)))
  have HA : Hid (s1 = s2 → (Bk.ptQ s1 e en == Bk.ptQ s2 e en) = true) := hide (fun h => by subst h; simp)
  have C1' := hide (C1.out _ HBV.out)
  have C2' := hide (fun Y => C2.out _ Y HBV.out)
  have HF' := hide (fun Y Z => HF.out _ Y Z HBV.out)
  generalize Bk.ptQ s1 e en = a1 at *
  generalize Bk.ptQ s2 e en = a2 at *
  clear h1 h2 hd w1 w2 hB hk hb0 HO1 HC hbV C1 C2 HF HV HU HBV
  have ht : t.tmod 2 = 0 ∨ t.tmod 2 = 1 ∨ t.tmod 2 = -1 := tmod2 t
  unfold Bk.en Bk.en0 at hen
  cases g with
  | false =>
    rcases ht with ht | ht | ht
    · obtain rfl : en = (-1) := by rw [← hen, ht, if_neg (by decide)]; decide
      clear hen
      go_enter Try.func9, Try.ntmps9
      go_wp2
      rw [HW.out]
      go_region_held3 (fun w' => w'.cell? ⟨w.heap.size, 1, none⟩ = some (.int .i64 e) ∧ w'.cell? ⟨w.heap.size + 1, 0, none⟩ = some (.int .i64 n) ∧ w'.cell? ⟨w.heap.size + 1, 1, none⟩ = some (.int .i64 (-1))) ((first | (with_reducible exact HS0.out) | (with_reducible exact HS1.out _ _ U1.out) | (with_reducible exact HS2.out _ _ _ _ U1.out U2.out) | go_keep)) ((first
        | (refine step_call_w (by rfl) 18 #[.pointer (some ⟨q, 0, none⟩), .int .i64 e, .agg #[.int .i64 n, .int .i64 (-1)]] ?_ C1'.out ?_; (focus (go_simp; done)); rintro v7 w7 ⟨rfl, u1⟩; have U1 := hide u1; clear u1)
        | (refine step_call_w (by rfl) 30 #[.pointer (some ⟨b, 0, none⟩), .int .i64 e, .agg #[.int .i64 n, .int .i64 (-1)]] ?_ (C2'.out _ U1.out) ?_; (focus (go_simp; done)); rintro v8 w8 ⟨rfl, u2⟩; have U2 := hide u2; clear u2)))
      go_wp2
      go_ret
      exact ⟨_, rfl, HA.out, HF'.out _ _ U1.out U2.out⟩
    · obtain rfl : en = (-2) := by rw [← hen, ht, if_neg (by decide)]; decide
      clear hen
      go_enter Try.func9, Try.ntmps9
      go_wp2
      rw [HW.out]
      go_region_held3 (fun w' => w'.cell? ⟨w.heap.size, 1, none⟩ = some (.int .i64 e) ∧ w'.cell? ⟨w.heap.size + 1, 0, none⟩ = some (.int .i64 n) ∧ w'.cell? ⟨w.heap.size + 1, 1, none⟩ = some (.int .i64 (-2))) ((first | (with_reducible exact HS0.out) | (with_reducible exact HS1.out _ _ U1.out) | (with_reducible exact HS2.out _ _ _ _ U1.out U2.out) | go_keep)) ((first
        | (refine step_call_w (by rfl) 18 #[.pointer (some ⟨q, 0, none⟩), .int .i64 e, .agg #[.int .i64 n, .int .i64 (-2)]] ?_ C1'.out ?_; (focus (go_simp; done)); rintro v7 w7 ⟨rfl, u1⟩; have U1 := hide u1; clear u1)
        | (refine step_call_w (by rfl) 30 #[.pointer (some ⟨b, 0, none⟩), .int .i64 e, .agg #[.int .i64 n, .int .i64 (-2)]] ?_ (C2'.out _ U1.out) ?_; (focus (go_simp; done)); rintro v8 w8 ⟨rfl, u2⟩; have U2 := hide u2; clear u2)))
      go_wp2
      go_ret
      exact ⟨_, rfl, HA.out, HF'.out _ _ U1.out U2.out⟩
    · obtain rfl : en = (-1) := by rw [← hen, ht, if_neg (by decide)]; decide
      clear hen
      go_enter Try.func9, Try.ntmps9
      go_wp2
      rw [HW.out]
      go_region_held3 (fun w' => w'.cell? ⟨w.heap.size, 1, none⟩ = some (.int .i64 e) ∧ w'.cell? ⟨w.heap.size + 1, 0, none⟩ = some (.int .i64 n) ∧ w'.cell? ⟨w.heap.size + 1, 1, none⟩ = some (.int .i64 (-1))) ((first | (with_reducible exact HS0.out) | (with_reducible exact HS1.out _ _ U1.out) | (with_reducible exact HS2.out _ _ _ _ U1.out U2.out) | go_keep)) ((first
        | (refine step_call_w (by rfl) 18 #[.pointer (some ⟨q, 0, none⟩), .int .i64 e, .agg #[.int .i64 n, .int .i64 (-1)]] ?_ C1'.out ?_; (focus (go_simp; done)); rintro v7 w7 ⟨rfl, u1⟩; have U1 := hide u1; clear u1)
        | (refine step_call_w (by rfl) 30 #[.pointer (some ⟨b, 0, none⟩), .int .i64 e, .agg #[.int .i64 n, .int .i64 (-1)]] ?_ (C2'.out _ U1.out) ?_; (focus (go_simp; done)); rintro v8 w8 ⟨rfl, u2⟩; have U2 := hide u2; clear u2)))
      go_wp2
      go_ret
      exact ⟨_, rfl, HA.out, HF'.out _ _ U1.out U2.out⟩
  | true =>
    rcases ht with ht | ht | ht
    · obtain rfl : n = en := by rw [← hen]; exact (if_pos rfl).symm
      clear hen
      go_enter Try.func9, Try.ntmps9
      go_wp2
      rw [HW.out]
      go_region_held3 (fun w' => w'.cell? ⟨w.heap.size, 1, none⟩ = some (.int .i64 e) ∧ w'.cell? ⟨w.heap.size + 1, 0, none⟩ = some (.int .i64 n) ∧ w'.cell? ⟨w.heap.size + 1, 1, none⟩ = some (.int .i64 n)) ((first | (with_reducible exact HS0.out) | (with_reducible exact HS1.out _ _ U1.out) | (with_reducible exact HS2.out _ _ _ _ U1.out U2.out) | go_keep)) ((first
        | (refine step_call_w (by rfl) 18 #[.pointer (some ⟨q, 0, none⟩), .int .i64 e, .agg #[.int .i64 n, .int .i64 n]] ?_ C1'.out ?_; (focus (go_simp; done)); rintro v7 w7 ⟨rfl, u1⟩; have U1 := hide u1; clear u1)
        | (refine step_call_w (by rfl) 30 #[.pointer (some ⟨b, 0, none⟩), .int .i64 e, .agg #[.int .i64 n, .int .i64 n]] ?_ (C2'.out _ U1.out) ?_; (focus (go_simp; done)); rintro v8 w8 ⟨rfl, u2⟩; have U2 := hide u2; clear u2)))
      go_wp2
      go_ret
      exact ⟨_, rfl, HA.out, HF'.out _ _ U1.out U2.out⟩
    · obtain rfl : n = en := by rw [← hen]; exact (if_pos rfl).symm
      clear hen
      go_enter Try.func9, Try.ntmps9
      go_wp2
      rw [HW.out]
      go_region_held3 (fun w' => w'.cell? ⟨w.heap.size, 1, none⟩ = some (.int .i64 e) ∧ w'.cell? ⟨w.heap.size + 1, 0, none⟩ = some (.int .i64 n) ∧ w'.cell? ⟨w.heap.size + 1, 1, none⟩ = some (.int .i64 n)) ((first | (with_reducible exact HS0.out) | (with_reducible exact HS1.out _ _ U1.out) | (with_reducible exact HS2.out _ _ _ _ U1.out U2.out) | go_keep)) ((first
        | (refine step_call_w (by rfl) 18 #[.pointer (some ⟨q, 0, none⟩), .int .i64 e, .agg #[.int .i64 n, .int .i64 n]] ?_ C1'.out ?_; (focus (go_simp; done)); rintro v7 w7 ⟨rfl, u1⟩; have U1 := hide u1; clear u1)
        | (refine step_call_w (by rfl) 30 #[.pointer (some ⟨b, 0, none⟩), .int .i64 e, .agg #[.int .i64 n, .int .i64 n]] ?_ (C2'.out _ U1.out) ?_; (focus (go_simp; done)); rintro v8 w8 ⟨rfl, u2⟩; have U2 := hide u2; clear u2)))
      go_wp2
      go_ret
      exact ⟨_, rfl, HA.out, HF'.out _ _ U1.out U2.out⟩
    · obtain rfl : n = en := by rw [← hen]; exact (if_pos rfl).symm
      clear hen
      go_enter Try.func9, Try.ntmps9
      go_wp2
      rw [HW.out]
      go_region_held3 (fun w' => w'.cell? ⟨w.heap.size, 1, none⟩ = some (.int .i64 e) ∧ w'.cell? ⟨w.heap.size + 1, 0, none⟩ = some (.int .i64 n) ∧ w'.cell? ⟨w.heap.size + 1, 1, none⟩ = some (.int .i64 n)) ((first | (with_reducible exact HS0.out) | (with_reducible exact HS1.out _ _ U1.out) | (with_reducible exact HS2.out _ _ _ _ U1.out U2.out) | go_keep)) ((first
        | (refine step_call_w (by rfl) 18 #[.pointer (some ⟨q, 0, none⟩), .int .i64 e, .agg #[.int .i64 n, .int .i64 n]] ?_ C1'.out ?_; (focus (go_simp; done)); rintro v7 w7 ⟨rfl, u1⟩; have U1 := hide u1; clear u1)
        | (refine step_call_w (by rfl) 30 #[.pointer (some ⟨b, 0, none⟩), .int .i64 e, .agg #[.int .i64 n, .int .i64 n]] ?_ (C2'.out _ U1.out) ?_; (focus (go_simp; done)); rintro v8 w8 ⟨rfl, u2⟩; have U2 := hide u2; clear u2)))
      go_wp2
      go_ret
      exact ⟨_, rfl, HA.out, HF'.out _ _ U1.out U2.out⟩
end
end Go.Proofs.Ytbepaimbbclejaa
/- Channels: a step by a store and by a book: Put (3). -/
namespace Go.Proofs.Ytbepaimbbclejaa
open Go.RowKit

set_option maxRecDepth 100000
set_option maxHeartbeats 2000000
section
variable {F1 F2 : Nat → Prop} {B : Nat} {w : World} {q b k1 k2 : Nat} {s1 s2 : Cst}
theorem done_3 (h1 : SX F1 B w q s1) (h2 : BX F2 B w b s2) (hd : ∀ x, F1 x → ¬ F2 x) (w1 : Wf k1 s1) (w2 : Wf k2 s2) (hk : k1 ≤ 1000) (hB : B ≤ w.heap.size) (d e t n : Int) (g : Bool) (hm : wrap64 ((IntKind.u64.wrap d).tmod 10) = 3) :
    Calls Try.prog 9 #[.pointer (some ⟨q, 0, none⟩), .pointer (some ⟨b, 0, none⟩), .agg #[.int .i64 d, .int .i64 e, .int .i64 t, .int .i64 n, .bool g]] w fun r w' => ∃ u, r = .returned (.bool u) ∧ (s1 = s2 → u = true) ∧ DN F1 F2 B w q b (Bk.op 3 e t n g s1) (Bk.op 3 e t n g s2) w' := by
  have HO1 : Hid (∀ s : Cst, Bk.op 3 e t n g s = Bk.pt s e n (Bk.en t n g)) := hide (fun s => by simp [Bk.op])
  rw [HO1.out s1, HO1.out s2]
  obtain ⟨W, hW⟩ : ∃ W, w.alloc (.cells #[.int .i64 d, .int .i64 e, .int .i64 t, .int .i64 n, .bool g] 35) = W := ⟨_, rfl⟩
  have hb0 : Below w.heap.size w W := by rw [← hW]; exact (Below.refl _ _).alloc (Nat.le_refl _) _
  have hWs : W.heap.size = w.heap.size + 1 := by rw [← hW]; simp
  have HC : Hid (∀ X, Kx (fun x => ¬ F1 x ∧ ¬ F2 x) W X → X.cell? ⟨w.heap.size, 1, none⟩ = some (.int .i64 e) ∧ X.cell? ⟨w.heap.size, 2, none⟩ = some (.int .i64 t) ∧ X.cell? ⟨w.heap.size, 3, none⟩ = some (.int .i64 n) ∧ X.cell? ⟨w.heap.size, 4, none⟩ = some (.bool g)) := hide (fun X hX => by
    have hn : ¬ F1 w.heap.size ∧ ¬ F2 w.heap.size := ⟨fun h => by have := (h1.lt _ h).2; omega, fun h => by have := (h2.lt _ h).2; omega⟩
    subst W
    exact ⟨hX.cell (by simp [go_sem]) hn, hX.cell (by simp [go_sem]) hn, hX.cell (by simp [go_sem]) hn, hX.cell (by simp [go_sem]) hn⟩)
  have HW := hide hW
  clear hW
  obtain ⟨en, hen⟩ : ∃ en, Bk.en t n g = en := ⟨_, rfl⟩
  rw [hen]
  have C1 : Hid (∀ X, Below w.heap.size w X → Calls Try.prog 18 #[.pointer (some ⟨q, 0, none⟩), .int .i64 e, .agg #[.int .i64 n, .int .i64 en]] X fun r w' => ∃ u, r = .returned u ∧ (u = .bool (Bk.ptQ s1 e en) ∧ US F1 B X q (Bk.pt s1 e n en) w')) := hide (fun X hX => ((h1.keep (Kx.of_below hX)).pt w1 hk (Nat.le_trans hB hX.size) e n en).mono (fun r w' h => ⟨_, h.1, rfl, h.2⟩))
  have C2 : Hid (∀ X Y, Below w.heap.size w X → US F1 B X q (Bk.pt s1 e n en) Y → Calls Try.prog 30 #[.pointer (some ⟨b, 0, none⟩), .int .i64 e, .agg #[.int .i64 n, .int .i64 en]] Y fun r w' => ∃ u, r = .returned u ∧ (u = .bool (Bk.ptQ s2 e en) ∧ UB F2 B Y b (Bk.pt s2 e n en) w')) := hide (fun X Y hX hY => ((h2.behind hd hX hY).pt w2 (by obtain ⟨F', -, k, -⟩ := hY; have := k.size; have := hX.size; omega) e n en).mono (fun r w' h => ⟨_, h.1, rfl, h.2⟩))
  have HF : Hid (∀ X Y Z, Below w.heap.size w X → US F1 B X q (Bk.pt s1 e n en) Y → UB F2 B Y b (Bk.pt s2 e n en) Z → DN F1 F2 B w q b (Bk.pt s1 e n en) (Bk.pt s2 e n en) Z) := hide (fun X Y Z hX u1 u2 => DN.two h2 hd hX u1 (Below.refl _ _) u2 (Below.refl _ _))
  have HV : Hid (∀ Y : World, Kx (fun x => ¬ F1 x ∧ ¬ F2 x) (W.alloc (.cells #[.int .i64 n, .int .i64 en] 59)) Y → Y.cell? ⟨w.heap.size, 1, none⟩ = some (.int .i64 e) ∧ Y.cell? ⟨w.heap.size + 1, 0, none⟩ = some (.int .i64 n) ∧ Y.cell? ⟨w.heap.size + 1, 1, none⟩ = some (.int .i64 en)) := hide (fun Y hY => by
    have hn : ¬ F1 (w.heap.size + 1) ∧ ¬ F2 (w.heap.size + 1) := ⟨fun h => by have := (h1.lt _ h).2; omega, fun h => by have := (h2.lt _ h).2; omega⟩
    refine ⟨(HC.out Y (((Kx.refl _ W).alloc _).step hY (fun _ _ h => h))).1, hY.cell ?_ hn, hY.cell ?_ hn⟩
    · rw [← hWs]; simp [go_sem]
    · rw [← hWs]; simp [go_sem])
  have hbV : Below w.heap.size w (W.alloc (.cells #[.int .i64 n, .int .i64 en] 59)).drew := below_drewN (hb0.alloc hb0.size _) 1
  have HBV := hide hbV
  obtain ⟨c1, c2, c3, c4⟩ := HC.out W (Kx.refl _ _)
  obtain ⟨x1, x2, x3, x4⟩ := And.intro c1 (And.intro c2 (And.intro c3 c4))
  rw [← HW.out] at c1 c2 c3 c4
  have c0 : (w.alloc (.cells #[.int .i64 d, .int .i64 e, .int .i64 t, .int .i64 n, .bool g] 35)).cell? ⟨w.heap.size, 0, none⟩ = some (.int .i64 d) := by simp [go_sem]
  have HS0 : Hid ((W.alloc (.cells #[.int .i64 n, .int .i64 en] 59)).drew.cell? ⟨w.heap.size, 1, none⟩ = some (.int .i64 e) ∧ (W.alloc (.cells #[.int .i64 n, .int .i64 en] 59)).drew.cell? ⟨w.heap.size + 1, 0, none⟩ = some (.int .i64 n) ∧ (W.alloc (.cells #[.int .i64 n, .int .i64 en] 59)).drew.cell? ⟨w.heap.size + 1, 1, none⟩ = some (.int .i64 en)) := hide (HV.out _ ((Kx.refl _ _).drewN 1))
  have HU : Hid (∀ X s', US F1 B (W.alloc (.cells #[.int .i64 n, .int .i64 en] 59)).drew q s' X → Kx (fun x => ¬ F1 x ∧ ¬ F2 x) (W.alloc (.cells #[.int .i64 n, .int .i64 en] 59)) X) := hide (fun X s' u => by obtain ⟨F', -, k, -⟩ := u; exact ((Kx.refl _ _).drewN 1).step (k.mono (fun x _ hx => hx.1)) (fun _ _ h => h))
  have HS1 : Hid (∀ X s', US F1 B (W.alloc (.cells #[.int .i64 n, .int .i64 en] 59)).drew q s' X → X.cell? ⟨w.heap.size, 1, none⟩ = some (.int .i64 e) ∧ X.cell? ⟨w.heap.size + 1, 0, none⟩ = some (.int .i64 n) ∧ X.cell? ⟨w.heap.size + 1, 1, none⟩ = some (.int .i64 en)) := hide (fun X s' u => HV.out _ (HU.out _ _ u))
  have HS2 : Hid (∀ X Y s' s'', US F1 B (W.alloc (.cells #[.int .i64 n, .int .i64 en] 59)).drew q s' X → UB F2 B X b s'' Y → Y.cell? ⟨w.heap.size, 1, none⟩ = some (.int .i64 e) ∧ Y.cell? ⟨w.heap.size + 1, 0, none⟩ = some (.int .i64 n) ∧ Y.cell? ⟨w.heap.size + 1, 1, none⟩ = some (.int .i64 en)) := hide (fun X Y s' s'' u v => by
    obtain ⟨F', -, k, -⟩ := v
    exact HV.out _ ((HU.out _ _ u).step k (fun x _ hx => hx.2)))
  have HA : Hid (s1 = s2 → (Bk.ptQ s1 e en == Bk.ptQ s2 e en) = true) := hide (fun h => by subst h; simp)
  have C1' := hide (C1.out _ HBV.out)
  have C2' := hide (fun Y => C2.out _ Y HBV.out)
  have HF' := hide (fun Y Z => HF.out _ Y Z HBV.out)
  generalize Bk.ptQ s1 e en = a1 at *
  generalize Bk.ptQ s2 e en = a2 at *
  clear h1 h2 hd w1 w2 hB hk hb0 HO1 HC hbV C1 C2 HF HV HU HBV
  have ht : t.tmod 2 = 0 ∨ t.tmod 2 = 1 ∨ t.tmod 2 = -1 := tmod2 t
  unfold Bk.en Bk.en0 at hen
  cases g with
  | false =>
    rcases ht with ht | ht | ht
    · obtain rfl : en = (-1) := by rw [← hen, ht, if_neg (by decide)]; decide
      clear hen
      go_enter Try.func9, Try.ntmps9
      go_wp2
      rw [HW.out]
      go_region_held3 (fun w' => w'.cell? ⟨w.heap.size, 1, none⟩ = some (.int .i64 e) ∧ w'.cell? ⟨w.heap.size + 1, 0, none⟩ = some (.int .i64 n) ∧ w'.cell? ⟨w.heap.size + 1, 1, none⟩ = some (.int .i64 (-1))) ((first | (with_reducible exact HS0.out) | (with_reducible exact HS1.out _ _ U1.out) | (with_reducible exact HS2.out _ _ _ _ U1.out U2.out) | go_keep)) ((first
        | (refine step_call_w (by rfl) 18 #[.pointer (some ⟨q, 0, none⟩), .int .i64 e, .agg #[.int .i64 n, .int .i64 (-1)]] ?_ C1'.out ?_; (focus (go_simp; done)); rintro v7 w7 ⟨rfl, u1⟩; have U1 := hide u1; clear u1)
        | (refine step_call_w (by rfl) 30 #[.pointer (some ⟨b, 0, none⟩), .int .i64 e, .agg #[.int .i64 n, .int .i64 (-1)]] ?_ (C2'.out _ U1.out) ?_; (focus (go_simp; done)); rintro v8 w8 ⟨rfl, u2⟩; have U2 := hide u2; clear u2)))
      go_wp2
      go_ret
      exact ⟨_, rfl, HA.out, HF'.out _ _ U1.out U2.out⟩
    · obtain rfl : en = (-2) := by rw [← hen, ht, if_neg (by decide)]; decide
      clear hen
      go_enter Try.func9, Try.ntmps9
      go_wp2
      rw [HW.out]
      go_region_held3 (fun w' => w'.cell? ⟨w.heap.size, 1, none⟩ = some (.int .i64 e) ∧ w'.cell? ⟨w.heap.size + 1, 0, none⟩ = some (.int .i64 n) ∧ w'.cell? ⟨w.heap.size + 1, 1, none⟩ = some (.int .i64 (-2))) ((first | (with_reducible exact HS0.out) | (with_reducible exact HS1.out _ _ U1.out) | (with_reducible exact HS2.out _ _ _ _ U1.out U2.out) | go_keep)) ((first
        | (refine step_call_w (by rfl) 18 #[.pointer (some ⟨q, 0, none⟩), .int .i64 e, .agg #[.int .i64 n, .int .i64 (-2)]] ?_ C1'.out ?_; (focus (go_simp; done)); rintro v7 w7 ⟨rfl, u1⟩; have U1 := hide u1; clear u1)
        | (refine step_call_w (by rfl) 30 #[.pointer (some ⟨b, 0, none⟩), .int .i64 e, .agg #[.int .i64 n, .int .i64 (-2)]] ?_ (C2'.out _ U1.out) ?_; (focus (go_simp; done)); rintro v8 w8 ⟨rfl, u2⟩; have U2 := hide u2; clear u2)))
      go_wp2
      go_ret
      exact ⟨_, rfl, HA.out, HF'.out _ _ U1.out U2.out⟩
    · obtain rfl : en = (-1) := by rw [← hen, ht, if_neg (by decide)]; decide
      clear hen
      go_enter Try.func9, Try.ntmps9
      go_wp2
      rw [HW.out]
      go_region_held3 (fun w' => w'.cell? ⟨w.heap.size, 1, none⟩ = some (.int .i64 e) ∧ w'.cell? ⟨w.heap.size + 1, 0, none⟩ = some (.int .i64 n) ∧ w'.cell? ⟨w.heap.size + 1, 1, none⟩ = some (.int .i64 (-1))) ((first | (with_reducible exact HS0.out) | (with_reducible exact HS1.out _ _ U1.out) | (with_reducible exact HS2.out _ _ _ _ U1.out U2.out) | go_keep)) ((first
        | (refine step_call_w (by rfl) 18 #[.pointer (some ⟨q, 0, none⟩), .int .i64 e, .agg #[.int .i64 n, .int .i64 (-1)]] ?_ C1'.out ?_; (focus (go_simp; done)); rintro v7 w7 ⟨rfl, u1⟩; have U1 := hide u1; clear u1)
        | (refine step_call_w (by rfl) 30 #[.pointer (some ⟨b, 0, none⟩), .int .i64 e, .agg #[.int .i64 n, .int .i64 (-1)]] ?_ (C2'.out _ U1.out) ?_; (focus (go_simp; done)); rintro v8 w8 ⟨rfl, u2⟩; have U2 := hide u2; clear u2)))
      go_wp2
      go_ret
      exact ⟨_, rfl, HA.out, HF'.out _ _ U1.out U2.out⟩
  | true =>
    rcases ht with ht | ht | ht
    · obtain rfl : n = en := by rw [← hen]; exact (if_pos rfl).symm
      clear hen
      go_enter Try.func9, Try.ntmps9
      go_wp2
      rw [HW.out]
      go_region_held3 (fun w' => w'.cell? ⟨w.heap.size, 1, none⟩ = some (.int .i64 e) ∧ w'.cell? ⟨w.heap.size + 1, 0, none⟩ = some (.int .i64 n) ∧ w'.cell? ⟨w.heap.size + 1, 1, none⟩ = some (.int .i64 n)) ((first | (with_reducible exact HS0.out) | (with_reducible exact HS1.out _ _ U1.out) | (with_reducible exact HS2.out _ _ _ _ U1.out U2.out) | go_keep)) ((first
        | (refine step_call_w (by rfl) 18 #[.pointer (some ⟨q, 0, none⟩), .int .i64 e, .agg #[.int .i64 n, .int .i64 n]] ?_ C1'.out ?_; (focus (go_simp; done)); rintro v7 w7 ⟨rfl, u1⟩; have U1 := hide u1; clear u1)
        | (refine step_call_w (by rfl) 30 #[.pointer (some ⟨b, 0, none⟩), .int .i64 e, .agg #[.int .i64 n, .int .i64 n]] ?_ (C2'.out _ U1.out) ?_; (focus (go_simp; done)); rintro v8 w8 ⟨rfl, u2⟩; have U2 := hide u2; clear u2)))
      go_wp2
      go_ret
      exact ⟨_, rfl, HA.out, HF'.out _ _ U1.out U2.out⟩
    · obtain rfl : n = en := by rw [← hen]; exact (if_pos rfl).symm
      clear hen
      go_enter Try.func9, Try.ntmps9
      go_wp2
      rw [HW.out]
      go_region_held3 (fun w' => w'.cell? ⟨w.heap.size, 1, none⟩ = some (.int .i64 e) ∧ w'.cell? ⟨w.heap.size + 1, 0, none⟩ = some (.int .i64 n) ∧ w'.cell? ⟨w.heap.size + 1, 1, none⟩ = some (.int .i64 n)) ((first | (with_reducible exact HS0.out) | (with_reducible exact HS1.out _ _ U1.out) | (with_reducible exact HS2.out _ _ _ _ U1.out U2.out) | go_keep)) ((first
        | (refine step_call_w (by rfl) 18 #[.pointer (some ⟨q, 0, none⟩), .int .i64 e, .agg #[.int .i64 n, .int .i64 n]] ?_ C1'.out ?_; (focus (go_simp; done)); rintro v7 w7 ⟨rfl, u1⟩; have U1 := hide u1; clear u1)
        | (refine step_call_w (by rfl) 30 #[.pointer (some ⟨b, 0, none⟩), .int .i64 e, .agg #[.int .i64 n, .int .i64 n]] ?_ (C2'.out _ U1.out) ?_; (focus (go_simp; done)); rintro v8 w8 ⟨rfl, u2⟩; have U2 := hide u2; clear u2)))
      go_wp2
      go_ret
      exact ⟨_, rfl, HA.out, HF'.out _ _ U1.out U2.out⟩
    · obtain rfl : n = en := by rw [← hen]; exact (if_pos rfl).symm
      clear hen
      go_enter Try.func9, Try.ntmps9
      go_wp2
      rw [HW.out]
      go_region_held3 (fun w' => w'.cell? ⟨w.heap.size, 1, none⟩ = some (.int .i64 e) ∧ w'.cell? ⟨w.heap.size + 1, 0, none⟩ = some (.int .i64 n) ∧ w'.cell? ⟨w.heap.size + 1, 1, none⟩ = some (.int .i64 n)) ((first | (with_reducible exact HS0.out) | (with_reducible exact HS1.out _ _ U1.out) | (with_reducible exact HS2.out _ _ _ _ U1.out U2.out) | go_keep)) ((first
        | (refine step_call_w (by rfl) 18 #[.pointer (some ⟨q, 0, none⟩), .int .i64 e, .agg #[.int .i64 n, .int .i64 n]] ?_ C1'.out ?_; (focus (go_simp; done)); rintro v7 w7 ⟨rfl, u1⟩; have U1 := hide u1; clear u1)
        | (refine step_call_w (by rfl) 30 #[.pointer (some ⟨b, 0, none⟩), .int .i64 e, .agg #[.int .i64 n, .int .i64 n]] ?_ (C2'.out _ U1.out) ?_; (focus (go_simp; done)); rintro v8 w8 ⟨rfl, u2⟩; have U2 := hide u2; clear u2)))
      go_wp2
      go_ret
      exact ⟨_, rfl, HA.out, HF'.out _ _ U1.out U2.out⟩
end
end Go.Proofs.Ytbepaimbbclejaa
/- Channels: a step by a store and by a book: Put (4). -/
namespace Go.Proofs.Ytbepaimbbclejaa
open Go.RowKit

set_option maxRecDepth 100000
set_option maxHeartbeats 2000000
section
variable {F1 F2 : Nat → Prop} {B : Nat} {w : World} {q b k1 k2 : Nat} {s1 s2 : Cst}
theorem done_4 (h1 : SX F1 B w q s1) (h2 : BX F2 B w b s2) (hd : ∀ x, F1 x → ¬ F2 x) (w1 : Wf k1 s1) (w2 : Wf k2 s2) (hk : k1 ≤ 1000) (hB : B ≤ w.heap.size) (d e t n : Int) (g : Bool) (hm : wrap64 ((IntKind.u64.wrap d).tmod 10) = 4) :
    Calls Try.prog 9 #[.pointer (some ⟨q, 0, none⟩), .pointer (some ⟨b, 0, none⟩), .agg #[.int .i64 d, .int .i64 e, .int .i64 t, .int .i64 n, .bool g]] w fun r w' => ∃ u, r = .returned (.bool u) ∧ (s1 = s2 → u = true) ∧ DN F1 F2 B w q b (Bk.op 4 e t n g s1) (Bk.op 4 e t n g s2) w' := by
  have HO1 : Hid (∀ s : Cst, Bk.op 4 e t n g s = Bk.pt s e n (Bk.en t n g)) := hide (fun s => by simp [Bk.op])
  rw [HO1.out s1, HO1.out s2]
  obtain ⟨W, hW⟩ : ∃ W, w.alloc (.cells #[.int .i64 d, .int .i64 e, .int .i64 t, .int .i64 n, .bool g] 35) = W := ⟨_, rfl⟩
  have hb0 : Below w.heap.size w W := by rw [← hW]; exact (Below.refl _ _).alloc (Nat.le_refl _) _
  have hWs : W.heap.size = w.heap.size + 1 := by rw [← hW]; simp
  have HC : Hid (∀ X, Kx (fun x => ¬ F1 x ∧ ¬ F2 x) W X → X.cell? ⟨w.heap.size, 1, none⟩ = some (.int .i64 e) ∧ X.cell? ⟨w.heap.size, 2, none⟩ = some (.int .i64 t) ∧ X.cell? ⟨w.heap.size, 3, none⟩ = some (.int .i64 n) ∧ X.cell? ⟨w.heap.size, 4, none⟩ = some (.bool g)) := hide (fun X hX => by
    have hn : ¬ F1 w.heap.size ∧ ¬ F2 w.heap.size := ⟨fun h => by have := (h1.lt _ h).2; omega, fun h => by have := (h2.lt _ h).2; omega⟩
    subst W
    exact ⟨hX.cell (by simp [go_sem]) hn, hX.cell (by simp [go_sem]) hn, hX.cell (by simp [go_sem]) hn, hX.cell (by simp [go_sem]) hn⟩)
  have HW := hide hW
  clear hW
  obtain ⟨en, hen⟩ : ∃ en, Bk.en t n g = en := ⟨_, rfl⟩
  rw [hen]
  have C1 : Hid (∀ X, Below w.heap.size w X → Calls Try.prog 18 #[.pointer (some ⟨q, 0, none⟩), .int .i64 e, .agg #[.int .i64 n, .int .i64 en]] X fun r w' => ∃ u, r = .returned u ∧ (u = .bool (Bk.ptQ s1 e en) ∧ US F1 B X q (Bk.pt s1 e n en) w')) := hide (fun X hX => ((h1.keep (Kx.of_below hX)).pt w1 hk (Nat.le_trans hB hX.size) e n en).mono (fun r w' h => ⟨_, h.1, rfl, h.2⟩))
  have C2 : Hid (∀ X Y, Below w.heap.size w X → US F1 B X q (Bk.pt s1 e n en) Y → Calls Try.prog 30 #[.pointer (some ⟨b, 0, none⟩), .int .i64 e, .agg #[.int .i64 n, .int .i64 en]] Y fun r w' => ∃ u, r = .returned u ∧ (u = .bool (Bk.ptQ s2 e en) ∧ UB F2 B Y b (Bk.pt s2 e n en) w')) := hide (fun X Y hX hY => ((h2.behind hd hX hY).pt w2 (by obtain ⟨F', -, k, -⟩ := hY; have := k.size; have := hX.size; omega) e n en).mono (fun r w' h => ⟨_, h.1, rfl, h.2⟩))
  have HF : Hid (∀ X Y Z, Below w.heap.size w X → US F1 B X q (Bk.pt s1 e n en) Y → UB F2 B Y b (Bk.pt s2 e n en) Z → DN F1 F2 B w q b (Bk.pt s1 e n en) (Bk.pt s2 e n en) Z) := hide (fun X Y Z hX u1 u2 => DN.two h2 hd hX u1 (Below.refl _ _) u2 (Below.refl _ _))
  have HV : Hid (∀ Y : World, Kx (fun x => ¬ F1 x ∧ ¬ F2 x) (W.alloc (.cells #[.int .i64 n, .int .i64 en] 59)) Y → Y.cell? ⟨w.heap.size, 1, none⟩ = some (.int .i64 e) ∧ Y.cell? ⟨w.heap.size + 1, 0, none⟩ = some (.int .i64 n) ∧ Y.cell? ⟨w.heap.size + 1, 1, none⟩ = some (.int .i64 en)) := hide (fun Y hY => by
    have hn : ¬ F1 (w.heap.size + 1) ∧ ¬ F2 (w.heap.size + 1) := ⟨fun h => by have := (h1.lt _ h).2; omega, fun h => by have := (h2.lt _ h).2; omega⟩
    refine ⟨(HC.out Y (((Kx.refl _ W).alloc _).step hY (fun _ _ h => h))).1, hY.cell ?_ hn, hY.cell ?_ hn⟩
    · rw [← hWs]; simp [go_sem]
    · rw [← hWs]; simp [go_sem])
  have hbV : Below w.heap.size w (W.alloc (.cells #[.int .i64 n, .int .i64 en] 59)).drew := below_drewN (hb0.alloc hb0.size _) 1
  have HBV := hide hbV
  obtain ⟨c1, c2, c3, c4⟩ := HC.out W (Kx.refl _ _)
  obtain ⟨x1, x2, x3, x4⟩ := And.intro c1 (And.intro c2 (And.intro c3 c4))
  rw [← HW.out] at c1 c2 c3 c4
  have c0 : (w.alloc (.cells #[.int .i64 d, .int .i64 e, .int .i64 t, .int .i64 n, .bool g] 35)).cell? ⟨w.heap.size, 0, none⟩ = some (.int .i64 d) := by simp [go_sem]
  have HS0 : Hid ((W.alloc (.cells #[.int .i64 n, .int .i64 en] 59)).drew.cell? ⟨w.heap.size, 1, none⟩ = some (.int .i64 e) ∧ (W.alloc (.cells #[.int .i64 n, .int .i64 en] 59)).drew.cell? ⟨w.heap.size + 1, 0, none⟩ = some (.int .i64 n) ∧ (W.alloc (.cells #[.int .i64 n, .int .i64 en] 59)).drew.cell? ⟨w.heap.size + 1, 1, none⟩ = some (.int .i64 en)) := hide (HV.out _ ((Kx.refl _ _).drewN 1))
  have HU : Hid (∀ X s', US F1 B (W.alloc (.cells #[.int .i64 n, .int .i64 en] 59)).drew q s' X → Kx (fun x => ¬ F1 x ∧ ¬ F2 x) (W.alloc (.cells #[.int .i64 n, .int .i64 en] 59)) X) := hide (fun X s' u => by obtain ⟨F', -, k, -⟩ := u; exact ((Kx.refl _ _).drewN 1).step (k.mono (fun x _ hx => hx.1)) (fun _ _ h => h))
  have HS1 : Hid (∀ X s', US F1 B (W.alloc (.cells #[.int .i64 n, .int .i64 en] 59)).drew q s' X → X.cell? ⟨w.heap.size, 1, none⟩ = some (.int .i64 e) ∧ X.cell? ⟨w.heap.size + 1, 0, none⟩ = some (.int .i64 n) ∧ X.cell? ⟨w.heap.size + 1, 1, none⟩ = some (.int .i64 en)) := hide (fun X s' u => HV.out _ (HU.out _ _ u))
  have HS2 : Hid (∀ X Y s' s'', US F1 B (W.alloc (.cells #[.int .i64 n, .int .i64 en] 59)).drew q s' X → UB F2 B X b s'' Y → Y.cell? ⟨w.heap.size, 1, none⟩ = some (.int .i64 e) ∧ Y.cell? ⟨w.heap.size + 1, 0, none⟩ = some (.int .i64 n) ∧ Y.cell? ⟨w.heap.size + 1, 1, none⟩ = some (.int .i64 en)) := hide (fun X Y s' s'' u v => by
    obtain ⟨F', -, k, -⟩ := v
    exact HV.out _ ((HU.out _ _ u).step k (fun x _ hx => hx.2)))
  have HA : Hid (s1 = s2 → (Bk.ptQ s1 e en == Bk.ptQ s2 e en) = true) := hide (fun h => by subst h; simp)
  have C1' := hide (C1.out _ HBV.out)
  have C2' := hide (fun Y => C2.out _ Y HBV.out)
  have HF' := hide (fun Y Z => HF.out _ Y Z HBV.out)
  generalize Bk.ptQ s1 e en = a1 at *
  generalize Bk.ptQ s2 e en = a2 at *
  clear h1 h2 hd w1 w2 hB hk hb0 HO1 HC hbV C1 C2 HF HV HU HBV
  have ht : t.tmod 2 = 0 ∨ t.tmod 2 = 1 ∨ t.tmod 2 = -1 := tmod2 t
  unfold Bk.en Bk.en0 at hen
  cases g with
  | false =>
    rcases ht with ht | ht | ht
    · obtain rfl : en = (-1) := by rw [← hen, ht, if_neg (by decide)]; decide
      clear hen
      go_enter Try.func9, Try.ntmps9
      go_wp2
      rw [HW.out]
      go_region_held3 (fun w' => w'.cell? ⟨w.heap.size, 1, none⟩ = some (.int .i64 e) ∧ w'.cell? ⟨w.heap.size + 1, 0, none⟩ = some (.int .i64 n) ∧ w'.cell? ⟨w.heap.size + 1, 1, none⟩ = some (.int .i64 (-1))) ((first | (with_reducible exact HS0.out) | (with_reducible exact HS1.out _ _ U1.out) | (with_reducible exact HS2.out _ _ _ _ U1.out U2.out) | go_keep)) ((first
        | (refine step_call_w (by rfl) 18 #[.pointer (some ⟨q, 0, none⟩), .int .i64 e, .agg #[.int .i64 n, .int .i64 (-1)]] ?_ C1'.out ?_; (focus (go_simp; done)); rintro v7 w7 ⟨rfl, u1⟩; have U1 := hide u1; clear u1)
        | (refine step_call_w (by rfl) 30 #[.pointer (some ⟨b, 0, none⟩), .int .i64 e, .agg #[.int .i64 n, .int .i64 (-1)]] ?_ (C2'.out _ U1.out) ?_; (focus (go_simp; done)); rintro v8 w8 ⟨rfl, u2⟩; have U2 := hide u2; clear u2)))
      go_wp2
      go_ret
      exact ⟨_, rfl, HA.out, HF'.out _ _ U1.out U2.out⟩
    · obtain rfl : en = (-2) := by rw [← hen, ht, if_neg (by decide)]; decide
      clear hen
      go_enter Try.func9, Try.ntmps9
      go_wp2
      rw [HW.out]
      go_region_held3 (fun w' => w'.cell? ⟨w.heap.size, 1, none⟩ = some (.int .i64 e) ∧ w'.cell? ⟨w.heap.size + 1, 0, none⟩ = some (.int .i64 n) ∧ w'.cell? ⟨w.heap.size + 1, 1, none⟩ = some (.int .i64 (-2))) ((first | (with_reducible exact HS0.out) | (with_reducible exact HS1.out _ _ U1.out) | (with_reducible exact HS2.out _ _ _ _ U1.out U2.out) | go_keep)) ((first
        | (refine step_call_w (by rfl) 18 #[.pointer (some ⟨q, 0, none⟩), .int .i64 e, .agg #[.int .i64 n, .int .i64 (-2)]] ?_ C1'.out ?_; (focus (go_simp; done)); rintro v7 w7 ⟨rfl, u1⟩; have U1 := hide u1; clear u1)
        | (refine step_call_w (by rfl) 30 #[.pointer (some ⟨b, 0, none⟩), .int .i64 e, .agg #[.int .i64 n, .int .i64 (-2)]] ?_ (C2'.out _ U1.out) ?_; (focus (go_simp; done)); rintro v8 w8 ⟨rfl, u2⟩; have U2 := hide u2; clear u2)))
      go_wp2
      go_ret
      exact ⟨_, rfl, HA.out, HF'.out _ _ U1.out U2.out⟩
    · obtain rfl : en = (-1) := by rw [← hen, ht, if_neg (by decide)]; decide
      clear hen
      go_enter Try.func9, Try.ntmps9
      go_wp2
      rw [HW.out]
      go_region_held3 (fun w' => w'.cell? ⟨w.heap.size, 1, none⟩ = some (.int .i64 e) ∧ w'.cell? ⟨w.heap.size + 1, 0, none⟩ = some (.int .i64 n) ∧ w'.cell? ⟨w.heap.size + 1, 1, none⟩ = some (.int .i64 (-1))) ((first | (with_reducible exact HS0.out) | (with_reducible exact HS1.out _ _ U1.out) | (with_reducible exact HS2.out _ _ _ _ U1.out U2.out) | go_keep)) ((first
        | (refine step_call_w (by rfl) 18 #[.pointer (some ⟨q, 0, none⟩), .int .i64 e, .agg #[.int .i64 n, .int .i64 (-1)]] ?_ C1'.out ?_; (focus (go_simp; done)); rintro v7 w7 ⟨rfl, u1⟩; have U1 := hide u1; clear u1)
        | (refine step_call_w (by rfl) 30 #[.pointer (some ⟨b, 0, none⟩), .int .i64 e, .agg #[.int .i64 n, .int .i64 (-1)]] ?_ (C2'.out _ U1.out) ?_; (focus (go_simp; done)); rintro v8 w8 ⟨rfl, u2⟩; have U2 := hide u2; clear u2)))
      go_wp2
      go_ret
      exact ⟨_, rfl, HA.out, HF'.out _ _ U1.out U2.out⟩
  | true =>
    rcases ht with ht | ht | ht
    · obtain rfl : n = en := by rw [← hen]; exact (if_pos rfl).symm
      clear hen
      go_enter Try.func9, Try.ntmps9
      go_wp2
      rw [HW.out]
      go_region_held3 (fun w' => w'.cell? ⟨w.heap.size, 1, none⟩ = some (.int .i64 e) ∧ w'.cell? ⟨w.heap.size + 1, 0, none⟩ = some (.int .i64 n) ∧ w'.cell? ⟨w.heap.size + 1, 1, none⟩ = some (.int .i64 n)) ((first | (with_reducible exact HS0.out) | (with_reducible exact HS1.out _ _ U1.out) | (with_reducible exact HS2.out _ _ _ _ U1.out U2.out) | go_keep)) ((first
        | (refine step_call_w (by rfl) 18 #[.pointer (some ⟨q, 0, none⟩), .int .i64 e, .agg #[.int .i64 n, .int .i64 n]] ?_ C1'.out ?_; (focus (go_simp; done)); rintro v7 w7 ⟨rfl, u1⟩; have U1 := hide u1; clear u1)
        | (refine step_call_w (by rfl) 30 #[.pointer (some ⟨b, 0, none⟩), .int .i64 e, .agg #[.int .i64 n, .int .i64 n]] ?_ (C2'.out _ U1.out) ?_; (focus (go_simp; done)); rintro v8 w8 ⟨rfl, u2⟩; have U2 := hide u2; clear u2)))
      go_wp2
      go_ret
      exact ⟨_, rfl, HA.out, HF'.out _ _ U1.out U2.out⟩
    · obtain rfl : n = en := by rw [← hen]; exact (if_pos rfl).symm
      clear hen
      go_enter Try.func9, Try.ntmps9
      go_wp2
      rw [HW.out]
      go_region_held3 (fun w' => w'.cell? ⟨w.heap.size, 1, none⟩ = some (.int .i64 e) ∧ w'.cell? ⟨w.heap.size + 1, 0, none⟩ = some (.int .i64 n) ∧ w'.cell? ⟨w.heap.size + 1, 1, none⟩ = some (.int .i64 n)) ((first | (with_reducible exact HS0.out) | (with_reducible exact HS1.out _ _ U1.out) | (with_reducible exact HS2.out _ _ _ _ U1.out U2.out) | go_keep)) ((first
        | (refine step_call_w (by rfl) 18 #[.pointer (some ⟨q, 0, none⟩), .int .i64 e, .agg #[.int .i64 n, .int .i64 n]] ?_ C1'.out ?_; (focus (go_simp; done)); rintro v7 w7 ⟨rfl, u1⟩; have U1 := hide u1; clear u1)
        | (refine step_call_w (by rfl) 30 #[.pointer (some ⟨b, 0, none⟩), .int .i64 e, .agg #[.int .i64 n, .int .i64 n]] ?_ (C2'.out _ U1.out) ?_; (focus (go_simp; done)); rintro v8 w8 ⟨rfl, u2⟩; have U2 := hide u2; clear u2)))
      go_wp2
      go_ret
      exact ⟨_, rfl, HA.out, HF'.out _ _ U1.out U2.out⟩
    · obtain rfl : n = en := by rw [← hen]; exact (if_pos rfl).symm
      clear hen
      go_enter Try.func9, Try.ntmps9
      go_wp2
      rw [HW.out]
      go_region_held3 (fun w' => w'.cell? ⟨w.heap.size, 1, none⟩ = some (.int .i64 e) ∧ w'.cell? ⟨w.heap.size + 1, 0, none⟩ = some (.int .i64 n) ∧ w'.cell? ⟨w.heap.size + 1, 1, none⟩ = some (.int .i64 n)) ((first | (with_reducible exact HS0.out) | (with_reducible exact HS1.out _ _ U1.out) | (with_reducible exact HS2.out _ _ _ _ U1.out U2.out) | go_keep)) ((first
        | (refine step_call_w (by rfl) 18 #[.pointer (some ⟨q, 0, none⟩), .int .i64 e, .agg #[.int .i64 n, .int .i64 n]] ?_ C1'.out ?_; (focus (go_simp; done)); rintro v7 w7 ⟨rfl, u1⟩; have U1 := hide u1; clear u1)
        | (refine step_call_w (by rfl) 30 #[.pointer (some ⟨b, 0, none⟩), .int .i64 e, .agg #[.int .i64 n, .int .i64 n]] ?_ (C2'.out _ U1.out) ?_; (focus (go_simp; done)); rintro v8 w8 ⟨rfl, u2⟩; have U2 := hide u2; clear u2)))
      go_wp2
      go_ret
      exact ⟨_, rfl, HA.out, HF'.out _ _ U1.out U2.out⟩
end
end Go.Proofs.Ytbepaimbbclejaa

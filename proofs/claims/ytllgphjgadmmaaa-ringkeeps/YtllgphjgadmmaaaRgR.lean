import Derived.Test.YtllgphjgadmmaaaRgRi
import Derived.Test.YtllgphjgadmmaaaRgRt
/- Package ring, as it landed: what is asked of it. -/
namespace Go.Proofs.Ytllgphjgadmmaaa
open Go.RowKit

set_option maxRecDepth 100000 in
set_option maxHeartbeats 1000000 in
theorem slotsi {F : Nat → Prop} {w : World} {p s : Nat} {M : List Int} (h : RIi F w p s M) : Calls Try.prog 7 #[.pointer (some ⟨p, 0, none⟩)] w fun e w' => e = .returned (.int .i64 (s : Int)) ∧ w' = w := by
  obtain ⟨C, cv, f, h1, -⟩ := h
  have c0 := h1.c0
  clear h1
  go_enter Try.func7, Try.ntmps7
  go_wp2
  go_ret
  exact ⟨rfl, rfl⟩
theorem fuli {F : Nat → Prop} {w : World} {p s : Nat} {M : List Int} (h : RIi F w p s M) : Calls Try.prog 9 #[.pointer (some ⟨p, 0, none⟩)] w fun e w' => e = .returned (.bool (fullR s M)) ∧ ∃ m, w' = w.drewN m := by
  obtain ⟨C, cv, f, h1, h2, h3, h4, h5, hF⟩ := h
  refine fulli h1 _ ?_
  unfold fullR
  by_cases e : 0 < s
  · have := h4 e
    by_cases e2 : M.length = s
    · rw [decide_eq_true e2, decide_eq_true (by omega : s ≤ M.length)]
    · rw [decide_eq_false e2, decide_eq_false (by omega : ¬ s ≤ M.length)]
  · rw [decide_eq_false e]; rfl
theorem ar_of {w : World} {g : Nat} {M : List Int} (h : w.heap[g]? = some (.cells (csi M).toArray 3 (0, 0))) : AR g w M :=
  ⟨fun k x hx => by rw [cell_of_row _ _ _ _ _ _ h]; simpa using csi_get hx, fun k => by simp [World.frozen?, h], (Array.getElem?_eq_some_iff.1 h).1⟩
set_option maxRecDepth 100000 in
set_option maxHeartbeats 1000000 in
theorem cleari {F : Nat → Prop} {w : World} {p s : Nat} {M : List Int} (h : RIi F w p s M) : Calls Try.prog 14 #[.pointer (some ⟨p, 0, none⟩)] w fun e w' => ∃ v, e = .returned v ∧ IR w' v M ∧ ∃ F' : Nat → Prop, RIi F' w' p s [] ∧ Kx (fun b => ¬ F b) w w' ∧ ∀ b, F' b → F b ∨ w.heap.size ≤ b := by
  have HA := hide (alli h)
  obtain ⟨C, cv, f, h1, h2, h3, h4, h5, hF⟩ := h
  have H1 := hide h1
  have HP := hide ((hF p).2 (.inl rfl))
  clear h1 h2 h3 h4 h5 hF
  go_enter Try.func14, Try.ntmps14
  go_wp2_with fail
  refine HA.out.mono ?_
  rintro e w1 ⟨rfl, q1, q2⟩
  have hr := H1.out.below q2
  have d1 := hr.c1
  have d2 := hr.c2
  have d3 := hr.c3
  have f1 := hr.fz 1
  have f2 := hr.fz 2
  have f3 := hr.fz 3
  have HR := hide hr
  have HA1 := hide (ar_of q1)
  have HQ := hide q2
  have hlt := H1.out.lt
  clear hr q1 q2
  go_wp2
  go_ret
  refine ⟨_, rfl, ⟨_, _, rfl, fun _ => ⟨w.heap.size, 0, rfl, fun k x hx => ?_⟩⟩, _, RIi.made HR.out.clr rfl (Nat.le_refl _) (Nat.zero_le _) (fun _ => Nat.zero_le _) (fun k x h => by simp at h), ?_, fun b hb => .inl ?_⟩
  · rw [Nat.zero_add, World.cell?_setCell_other _ _ _ _ (fun e => by injection e; omega), World.cell?_setCell_other _ _ _ _ (fun e => by injection e; omega), World.cell?_setCell_other _ _ _ _ (fun e => by injection e; omega)]
    exact HA1.out.cell k x hx
  · exact ((((Kx.of_below (X := fun b => ¬ F b) HQ.out).set (p := ⟨p, 1, none⟩) (.inr (fun e => e HP.out)) _).set (p := ⟨p, 2, none⟩) (.inr (fun e => e HP.out)) _).set (p := ⟨p, 3, none⟩) (.inr (fun e => e HP.out)) _)
  · rcases hb with e | e
    · rw [e]; exact HP.out
    · cases e
theorem ring_ok : ∃ RI, RingOK RI := by
  refine ⟨RIi, ⟨fun h => h.lt, fun h hk => h.keep hk, newi, fun h => slotsi h, fun h => leni h, fun h => fuli h, fun x h hM => puti x h hM, fun h => takei h, fun {F w p s M} h _ => ?_, fun h _ => cleari h⟩⟩
  refine (alli h).mono ?_
  rintro e w1 ⟨rfl, q1, q2⟩
  exact ⟨_, _, rfl, fun _ => ⟨w.heap.size, rfl, Nat.le_refl _, ar_of q1⟩, q2⟩
theorem ringt_ok : ∃ RT, RingOT RT := by
  refine ⟨RIt, ⟨fun h => h.lt, fun h hk => h.keep hk, newt, fun h => lent h, fun x h hM => putt x h hM, fun h => taket h, fun {F w p s M} h _ => ?_⟩⟩
  refine (allt h).mono ?_
  rintro e w1 ⟨rfl, q1, q2⟩
  refine ⟨_, _, rfl, fun _ => ⟨w.heap.size, 0, rfl, fun k x hx => ?_⟩, q2⟩
  rw [Nat.zero_add, cell_of_row _ _ _ _ _ _ q1]
  simpa using cst_get hx
end Go.Proofs.Ytllgphjgadmmaaa

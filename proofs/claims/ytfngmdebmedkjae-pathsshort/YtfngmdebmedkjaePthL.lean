import Derived.Test.YtfngmdebmedkjaePthJ
/- What is reached: the program's own way. -/
namespace Go.Proofs.Ytfngmdebmedkjae
open Go.RowKit

/-- Those that were found, up to some number. -/
def rcs (ah : List Int) (k : Nat) : List Nat := (List.range k).filter fun (v : Nat) => ah[v]? != some (-1)
theorem rcs_len (ah : List Int) (k : Nat) : (rcs ah k).length ≤ k := by
  have := List.length_filter_le (fun (v : Nat) => ah[v]? != some (-1)) (List.range k)
  unfold rcs
  simpa using this
theorem rcs_yes {ah : List Int} {k : Nat} {x : Int} (h : ah[k]? = some x) (hx : x ≠ -1) : rcs ah (k + 1) = rcs ah k ++ [k] := by
  unfold rcs
  rw [List.range_succ, List.filter_append]
  simp [h, hx]
theorem rcs_no {ah : List Int} {k : Nat} (h : ah[k]? = some (-1)) : rcs ah (k + 1) = rcs ah k := by
  unfold rcs
  rw [List.range_succ, List.filter_append]
  simp [h]
theorem own_base {w : World} {B B' : Nat} {v : Value} {n : Nat} {xs : List Value} (h : w.ownsRow B 3 1 v n xs) (hb : B' ≤ B) : w.ownsRow B' 3 1 v n xs := by
  refine ⟨h.1, h.2.imp id ?_⟩
  rintro ⟨g, cap, cur, hv, hg, rest⟩
  exact ⟨g, cap, cur, hv, Nat.le_trans hb hg, rest⟩

set_option maxRecDepth 100000 in
set_option maxHeartbeats 1000000 in
theorem reach_any (c : Cp) (w : World) (h : PM c w) :
    Calls Try.prog 13 #[c.v] w fun e w' => ∃ (v : Value) (ah : List Int), e = .returned v ∧ IR w' v (up (rcs ah c.p.length)) ∧ SPR c.p 0 ah ∧ Below w.heap.size w w' := by
  obtain ⟨i0, hi, hz0, hz1, hz2⟩ := info_parts Try.info3
  have hfew := h.few
  have HS : Hid (∀ w', Below w.heap.size w w' → Calls Try.prog 14 #[c.v, .int .i64 0] w' fun e w'' => ∃ (ga ca : Nat) (ah : List Int), e = .returned (.slice (some ⟨ga, 0, none⟩) c.p.length ca) ∧ (∀ (k : Nat) x, ah[k]? = some x → w''.cell? ⟨ga, k, none⟩ = some (.int .i64 x)) ∧ SPR c.p 0 ah ∧ Below w'.heap.size w' w'') := hide (fun w' hb => spread_any c 0 w' (h.keep hb))
  clear h
  unfold Cp.v at *
  obtain ⟨g, o, cc, a, nm, vs, pr, bl, p⟩ := c
  dsimp only at *
  have hb0 : Hid (Below w.heap.size w (w.alloc (.cells #[nm, vs, pr, bl, .slice a p.length cc] 26))) := hide ((Below.refl _ _).alloc (Nat.le_refl _) _)
  go_enter Try.func13, Try.ntmps13
  go_wp2_with fail
  refine (HS.out _ hb0.out).mono ?_
  rintro e w1 ⟨ga, ca, ah, rfl, hcell, hspr, hb1⟩
  have HC := hide hcell
  have HP := hide hspr
  have HB1 := hide (btrans hb0.out hb1)
  have hlen : ah.length = p.length := hspr.1
  clear hcell hspr hb1 HS hb0
  go_wp2
  go_loopw [3, 9] (fun v iv wr => ∃ k : Nat, k ≤ p.length ∧ iv = .int .i64 k ∧ Hid (wr.ownsRow w1.heap.size 3 1 v (rcs ah k).length (ints (up (rcs ah k)))) ∧ Hid (Below w1.heap.size w1 wr)) (fun _ iv _ => p.length - (intOf iv).toNat)
  case atStart => exact ⟨0, Nat.zero_le _, rfl, hide (World.ownsRow_nil _ _ _ _), hide (Below.refl _ _)⟩
  case round =>
    obtain ⟨k, hk, rfl, HO, HB⟩ := hrel
    have hrl := rcs_len ah k
    have hs1 := HB.out.size
    by_cases hlt : k < p.length
    · obtain ⟨x, hx⟩ : ∃ x, ah[k]? = some x := ⟨_, List.getElem?_eq_getElem (by omega)⟩
      have c0 := bsome HB.out (HC.out k x hx)
      have hgl := World.block_lt_of_cell? _ _ c0
      by_cases hx1 : x = -1
      · subst hx1
        have HO2 : Hid (wr.ownsRow w1.heap.size 3 1 u3 (rcs ah (k + 1)).length (ints (up (rcs ah (k + 1))))) := by rw [rcs_no hx]; exact HO
        clear hx HO
        go_wp2
        go_roundw
        case rel => exact ⟨k + 1, by omega, by go_num, HO2, HB⟩
        case measure => simp [intOf]; omega
      · have b1 : (x != -1) = true := by simpa using hx1
        have HY := hide (rcs_yes hx hx1)
        clear hx
        go_wp2_with (at_builtin; refine wpList_append_lies _ rfl _ _ 30 rfl w1.heap.size 3 i0 (.int .i64 0) 1 8 Try.underlying30 hi hz0 hz1 hz2 rfl (by decide) _ _ _ rfl (HO.out.alloc _) ⟨wr.heap.size, 0, none⟩ 1 1 [.int .i64 k] rfl rfl (by exact cell_one_new _ _ _) ?c2 (by decide) ?c4 ?c5 ?c6 _ rfl ?_)
        case c2 => first | rfl | (intro u hu; simp at hu; subst hu; rfl)
        case c4 => unfold maxLen; omega
        case c5 => omega
        case c6 => first | omega | (simp; omega)
        intro gg cap w2 hown hgrow hat hlt2
        have HB2 : Hid (Below w1.heap.size w1 w2) := hide ((HB.out.alloc hs1 _).grown hgrow (by simp; omega) (fun j hj => (HO.out.lt j hj).1))
        have HO2 : Hid (w2.ownsRow w1.heap.size 3 1 (.slice (some ⟨gg, 0, none⟩) ((rcs ah k).length + 1) cap) (rcs ah (k + 1)).length (ints (up (rcs ah (k + 1))))) := by
          rw [HY.out, up_app, ints_app, List.length_append]
          exact hown
        clear hown hgrow hat HY HO HB
        go_wp2
        go_roundw
        case rel => exact ⟨k + 1, by omega, by go_num, HO2, HB2⟩
        case measure => simp [intOf]; omega
    · obtain rfl : k = p.length := by omega
      go_wp2
      go_ret
      refine ⟨_, ah, rfl, ?_, HP.out, btrans HB1.out HB.out⟩
      have := HO.out
      rw [← up_len] at this
      exact own_ir this
end Go.Proofs.Ytfngmdebmedkjae

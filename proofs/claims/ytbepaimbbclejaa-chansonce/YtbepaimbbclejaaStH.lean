import Derived.Test.YtbepaimbbclejaaStG
import Derived.Test.YtbepaimbbclejaaChH
import Derived.Deep.LoopGhost
/- Package chans: an end is gone; a channel's end. -/
namespace Go.Proofs.Ytbepaimbbclejaa
open Go.RowKit

set_option maxRecDepth 100000
set_option maxHeartbeats 1000000
def Ld.gon (L : List En) (e : Int) : List En := if Ld.has L e then L.set e.toNat { Ld.at L e with h := -2, d := wp1 (Ld.at L e).d } else L
theorem gone_wp {B : Nat} {w : World} {p : Nat} {v : Value} {L : List En} (h : LG B w p v L) (e : Int) :
    Calls Try.prog 58 #[.pointer (some ⟨p, 0, none⟩), .int .i64 e] w fun r w' => r = .returned (.bool (Ld.has L e && !((Ld.at L e).h == -2))) ∧ LG B w' p v (Ld.gon L e) ∧ LC w w' p v v := by
  have HH := hide (has_any h e)
  have hp := h.plt
  have HL := hide h
  unfold Ld.gon
  rcases Ld.cs L e with ⟨k, x, rfl, hx, hk, h1, h2⟩ | ⟨h1, h2, -⟩
  · rw [h1] at HH
    rw [h1, h2]
    obtain ⟨g, c, rfl, hgp, c1, c2, c3, c4, hf⟩ := h.at hx
    have hc := h.c
    have HL := hide h
    have HD := hide (dropped_any x)
    have HX := hide hx
    have k0 : (0 : Int) ≤ (k : Int) := by omega
    have k1 : (k : Int) < (L.length : Int) := by omega
    have hf2 := hf (k * 4 + 2)
    have hf3 := hf (k * 4 + 3)
    have hg := World.block_lt_of_cell? _ _ c1
    clear hf h hx
    generalize (x.h == -2) = db at *
    go_enter Try.func58, Try.ntmps58
    go_wp2_with fail
    refine HH.out.mono ?_
    rintro e w1 ⟨rfl, rfl⟩
    go_wp2_with fail
    refine (HD.out _).mono ?_
    rintro e w3 ⟨rfl, hb⟩
    have HB := hide hb
    have HL3 := hide (HL.out.keep hb)
    have hc := bsome hb hc
    have c3 := bsome hb c3
    have c4 := bsome hb c4
    have hf2 : w3.frozen? ⟨g, k * 4 + 2, none⟩ = false := (hb.frozen (p := ⟨g, k * 4 + 2, none⟩) hg).trans hf2
    have hf3 : w3.frozen? ⟨g, k * 4 + 3, none⟩ = false := (hb.frozen (p := ⟨g, k * 4 + 3, none⟩) hg).trans hf3
    clear hb
    go_wp2
    go_ret
    have hkl : k < L.length := by omega
    have HF := (HL3.out.seth HX.out (-2))
    have HF2 := LG.setd (k := k) (x := { x with h := -2 }) (L := L.set k { x with h := -2 }) (by rw [List.length_set]; exact HF) (List.getElem?_set_self hkl) (wp1 x.d)
    rw [List.set_set, List.length_set] at HF2
    exact ⟨rfl, HF2, ⟨((Kx.of_below HB.out).set (p := ⟨g, k * 4 + 2, none⟩) (.inr (fun e => e.2 rfl)) _).set (p := ⟨g, k * 4 + 3, none⟩) (.inr (fun e => e.2 rfl)) _, .inl rfl⟩⟩
  · rw [h1] at HH
    rw [h1]
    go_enter Try.func58, Try.ntmps58
    go_wp2_with fail
    refine HH.out.mono ?_
    rintro e w1 ⟨rfl, rfl⟩
    go_wp2
    go_ret
    exact ⟨rfl, HL.out, LC.of_below (Below.refl _ _) _ _⟩
/-- The ends among items. -/
def Bk.lay (L : List (Int × Int)) : List Int := (L.filter (fun x => decide (0 ≤ x.2))).map (·.2)
theorem Bk.lay_len (L : List (Int × Int)) : (Bk.lay L).length ≤ L.length := by
  unfold Bk.lay
  rw [List.length_map]
  exact List.length_filter_le _ _
theorem Bk.lay_take {L : List (Int × Int)} {k : Nat} {x : Int × Int} (h : L[k]? = some x) : Bk.lay (L.take (k + 1)) = if 0 ≤ x.2 then Bk.lay (L.take k) ++ [x.2] else Bk.lay (L.take k) := by
  unfold Bk.lay
  rw [List.take_add_one, h]
  show ((L.take k ++ [x]).filter _).map _ = _
  rw [List.filter_append, List.map_append]
  split
  · rename_i hx; simp [hx]
  · rename_i hx; simp [hx]
theorem chEnd_any {B : Nat} {w : World} {p : Pl} {s n : Int} {M : List (Int × Int)} {g : Bool} (h : CH B w p s n M g) (hM : M.length ≤ 1000) (n1 : p.1 ≠ p.2.1) (n2 : p.2.2.ownBlock ≠ some p.1) : Calls Try.prog 59 #[.pointer (some ⟨p.1, 0, none⟩)] w fun e w' => ∃ v, e = .returned v ∧ w'.ownsRow w.heap.size 3 1 v (Bk.lay M.reverse).length (ints (Bk.lay M.reverse)) ∧ CH B w' (p.1, p.2.1, .slice none 0 0) s n [] true ∧ Kx (fun b => b ≠ p.1 ∧ b ≠ p.2.1) w w' := by
  have c0 := h.c0
  have c2 := h.c2
  have t2 := h.t 2
  have hpl := World.block_lt_of_cell? _ ⟨p.1, 0, none⟩ h.c0
  have hk : Kx (fun b => b ≠ p.1) w (w.setCell ⟨p.1, 2, none⟩ (.bool true)) := (Kx.refl _ _).set (p := ⟨p.1, 2, none⟩) (.inr (fun e => e rfl)) _
  have hr : RJ (w.setCell ⟨p.1, 2, none⟩ (.bool true)) p.2.1 p.2.2 s.toNat M := h.r.keep hk (fun e => n1 e.symm) (fun b hb e => n2 (by rw [hb, e]))
  have HC := hide (clearj hr)
  have d0 : (w.setCell ⟨p.1, 2, none⟩ (.bool true)).cell? ⟨p.1, 0, none⟩ = _ := (World.cell?_setCell_other _ _ _ _ (fun e => by injection e with _ e; omega)).trans h.c0
  have hr1 := hr.lt.1
  have hsz : (w.setCell ⟨p.1, 2, none⟩ (.bool true)).heap.size = w.heap.size := by simp [World.setCell]
  have HF : Hid (∀ X, RJ X p.2.1 (.slice none 0 0) s.toNat [] → Kx (fun b => b ≠ p.2.1) (w.setCell ⟨p.1, 2, none⟩ (.bool true)) X → CH B X (p.1, p.2.1, .slice none 0 0) s n [] true ∧ Kx (fun b => b ≠ p.1 ∧ b ≠ p.2.1) w X) := hide (fun X hX hK => by
    refine ⟨⟨hK.cell d0 n1, hK.cell ((World.cell?_setCell_other _ _ _ _ (fun e => by injection e with _ e; omega)).trans h.c1) n1, hK.cell (World.cell?_setCell_same _ _ _ h.c2) n1, fun k => (hK.frozen (p := ⟨p.1, k, none⟩) (by rw [hsz]; exact hpl) n1).trans ((World.frozen?_setCell _ _ _ _).trans (h.t k)), hX, h.s0, h.lo.1, h.lo.2.1, fun b hb => by cases hb⟩, (hk.mono (fun b _ hb => hb.1)).step hK (fun b _ hb => hb.2)⟩)
  rw [hsz] at HC
  obtain ⟨i0, hi, hz0, hz1, hz2⟩ := info_parts Try.info3
  have HSZ := hide hsz
  clear h hr hk hsz hpl hr1
  go_enter Try.func59, Try.ntmps59
  go_wp2_with fail
  refine HC.out.mono ?_
  rintro e X ⟨rfl, q1, q2, q3⟩
  have HIt := hide (itr_of q1)
  have hXl : w.heap.size < X.heap.size := (Array.getElem?_eq_some_iff.1 q1).1
  have HF2 := hide (HF.out X q2 q3)
  clear q1 q2 q3 HC HF c0 c2 t2 d0
  go_wp2
  go_loopg [4, 17] M.length (fun k lv iv wr => ∃ (i : Nat), k = M.length - i ∧ i ≤ M.length ∧ iv = .int .i64 i ∧ Hid (wr.ownsRow X.heap.size 3 1 lv (Bk.lay (M.reverse.take i)).length (ints (Bk.lay (M.reverse.take i)))) ∧ Hid (Below X.heap.size X wr))
  case atStart => exact ⟨0, rfl, Nat.zero_le _, rfl, hide (World.ownsRow_nil _ _ _ _), hide (Below.refl _ _)⟩
  case round =>
    obtain ⟨i, rfl, hik, rfl, HO, HB⟩ := hrel
    by_cases hlt : i < M.length
    · have d1 : decide ((i : Int) < (M.length : Int)) = true := by simp; omega
      obtain ⟨j, hj⟩ : ∃ j, j = M.length - 1 - i := ⟨_, rfl⟩
      have hjl : j < M.length := by omega
      obtain ⟨x, hx⟩ : ∃ x, M[j]? = some x := ⟨_, List.getElem?_eq_getElem hjl⟩
      have hxr : M.reverse[i]? = some x := by rw [List.getElem?_reverse hlt, ← hj]; exact hx
      have hot := Bk.lay_take hxr
      have hnl : (Bk.lay (M.reverse.take i)).length ≤ i := Nat.le_trans (Bk.lay_len _) (by rw [List.length_take]; omega)
      obtain ⟨c1, c2⟩ := HIt.out j x hx
      have c1 := bsome HB.out c1
      have c2 := bsome HB.out c2
      obtain ⟨x1, x2⟩ := x
      simp only at c1 c2 hot
      have hsub : (M.length : Int) - 1 - (i : Int) = (j : Int) := by omega
      have j0 : (0 : Int) ≤ (j : Int) := by omega
      have j1 : (j : Int) < (M.length : Int) := by omega
      have HI := hide (isEnd_any x1 x2)
      have hb2 : Below X.heap.size X (wr.alloc (.cells #[.int .i64 x1, .int .i64 x2] 59)) := HB.out.alloc HB.out.size _
      clear hx hxr hj
      have HT := hide hot
      clear hot
      by_cases hh : 0 ≤ x2
      · rw [decide_eq_true hh] at HI
        rw [if_pos hh] at HT
        clear hh
        generalize Bk.lay (M.reverse.take i) = L at *
        obtain ⟨al, cl, e5⟩ := own_slicei HO.out
        subst e5
        go_wp2_with fail
        refine (HI.out _).mono ?_
        rintro e w5 ⟨rfl, hb5⟩
        have HB5 := hide (hb2.trans (hb5.mono hb2.size))
        have HO5 := hide (own_keepe (HO.out.alloc (.cells #[.int .i64 x1, .int .i64 x2] 59)) (fun b hb => hb5.block b ((HO.out.alloc (.cells #[.int .i64 x1, .int .i64 x2] 59)).lt b hb).2))
        have z1 : w5.cell? ⟨wr.heap.size, 1, none⟩ = some (.int .i64 x2) := bsome hb5 (by simp [go_sem])
        clear hb5 HO
        go_wp2_with (at_builtin; refine wpList_append_lies _ rfl _ _ 28 rfl X.heap.size 3 i0 (.int .i64 0) 1 8 Try.underlying28 hi hz0 hz1 hz2 rfl (by decide) _ _ _ rfl (by exact HO5.out.alloc _) ⟨w5.heap.size, 0, none⟩ 1 1 [.int .i64 x2] rfl rfl (cell_one_new w5 _ 3) (by intro u hu; simp at hu; subst hu; rfl) (by decide) (by unfold maxLen; omega) (by omega) (by have := HB5.out.size; simp; omega) _ rfl ?_)
        intro gq cap w7 hown hgrow hat hlt7
        have HB3 : Hid (Below X.heap.size X w7) := hide ((HB5.out.alloc HB5.out.size _).grown hgrow (by have := HB5.out.size; simp; omega) (fun j hj => (HO5.out.lt j hj).1))
        have HO3 : Hid (w7.ownsRow X.heap.size 3 1 (.slice (some ⟨gq, 0, none⟩) (L.length + 1) cap) (Bk.lay (M.reverse.take (i + 1))).length (ints (Bk.lay (M.reverse.take (i + 1))))) := hide (by rw [HT.out, ints_app, List.length_append, List.length_singleton]; exact hown)
        clear hown hgrow hat hlt7 HO5
        go_wp2
        go_roundg (M.length - (i + 1))
        case measure => omega
        case rel => exact ⟨i + 1, rfl, by omega, by go_num, HO3, HB3⟩
      · rw [decide_eq_false hh] at HI
        rw [if_neg hh] at HT
        clear hh
        go_wp2_with fail
        refine (HI.out _).mono ?_
        rintro e w5 ⟨rfl, hb5⟩
        have HB5 := hide (hb2.trans (hb5.mono hb2.size))
        have HO5 := hide (own_keepe (HO.out.alloc (.cells #[.int .i64 x1, .int .i64 x2] 59)) (fun b hb => hb5.block b ((HO.out.alloc (.cells #[.int .i64 x1, .int .i64 x2] 59)).lt b hb).2))
        rw [← HT.out] at HO5
        clear hb5 HO
        go_wp2
        go_roundg (M.length - (i + 1))
        case measure => omega
        case rel => exact ⟨i + 1, rfl, by omega, by go_num, HO5, HB5⟩
    · obtain rfl : i = M.length := by omega
      have d1 : decide ((M.length : Int) < (M.length : Int)) = false := by simp
      rw [List.take_of_length_le (by simp)] at HO
      obtain ⟨al, cl, e5⟩ := own_slicei HO.out
      subst e5
      go_wp2
      go_ret
      have hK := HF2.out.2.step (Kx.of_below (X := fun _ => True) HB.out) (fun _ _ _ => trivial)
      refine ⟨_, rfl, ?_, HF2.out.1.keep (X := fun _ => True) (Kx.of_below HB.out) trivial trivial (fun _ _ => trivial), hK⟩
      refine ⟨HO.out.1, ?_⟩
      rcases HO.out.2 with h0 | ⟨g, cap, cur, hv, hb, rest⟩
      · exact .inl h0
      · exact .inr ⟨g, cap, cur, hv, by omega, rest⟩
end Go.Proofs.Ytbepaimbbclejaa

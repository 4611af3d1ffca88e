import Derived.Test.YtfngmdebmedkjaePthL
import Derived.Test.YtfngmdebmedkjaePthR
import Derived.Test.YtfngmdebmedkjaePthQ
/- The shortest way: the program's own way. -/
namespace Go.Proofs.Ytfngmdebmedkjae
open Go.RowKit

theorem inv_best {nx : Nat → List Nat} {n a : Nat} {ah : List Int} {ln : List Nat} {g : Nat → List Nat} (h : Pa.Inv nx n a ah ln ln.length [] g) {t : Nat} (ht : t ∈ ln) : Pa.Best nx t a (g t) := by
  obtain ⟨j, hj⟩ := List.getElem?_of_mem ht
  exact ⟨Pa.way_fw (h.way j t hj), fun l hl => (h.best (Pa.fw_way hl)).2⟩
/-- What Path tells. -/
def PTH (p : Pa.Pr) (i k : Int) (L : List Nat) : Prop :=
  (∃ a t : Nat, i = (a : Int) ∧ k = (t : Int) ∧ a < p.length ∧ t < p.length ∧ Pa.Best (nxp p) t a L ∧ L.length ≤ p.length) ∨
  (L = [] ∧ ∀ a t : Nat, i = (a : Int) → k = (t : Int) → a < p.length → t < p.length → ∀ l, ¬ Pa.Fw (nxp p) t a l)
theorem inv_glen {nx : Nat → List Nat} {n a : Nat} {ah : List Int} {ln : List Nat} {k : Nat} {d : List Nat} {g : Nat → List Nat} (h : Pa.Inv nx n a ah ln k d g) : ∀ (j : Nat) v, ln[j]? = some v → (g v).length ≤ j + 1 := by
  intro j
  induction j using Nat.strongRecOn with
  | ind j ih =>
    intro v hv
    by_cases h0 : j = 0
    · subst h0
      rw [h.z] at hv
      cases hv
      rw [h.zg]
      simp
    · obtain ⟨i, u, h1, -, h3, -, -, h6, -⟩ := h.par j v (by omega) hv
      have := ih i h1 u h3
      rw [h6, List.length_append]
      simp
      omega
theorem spr_none {p : Pa.Pr} {i k : Int} {ah : List Int} (h : SPR p i ah) (hk : Pa.isI p k = false ∨ ∃ t : Nat, k = (t : Int) ∧ ah[t]? = some (-1)) : PTH p i k [] := by
  refine .inr ⟨rfl, fun a t ha ht han htn l hl => ?_⟩
  rcases hk with hk | ⟨t', e, hx⟩
  · rw [ht, Pa.isI_iff.2 ⟨by omega, by omega⟩] at hk; cases hk
  · obtain rfl : t = t' := by omega
    obtain ⟨ln, g, hi⟩ := h.2.2 a ha han
    have := (hi.best (Pa.fw_way hl)).1
    exact (hi.mem t htn).1 this hx

set_option maxRecDepth 100000 in
set_option maxHeartbeats 1000000 in
theorem path_any (c : Cp) (i k : Int) (w : World) (h : PM c w) :
    Calls Try.prog 8 #[c.v, .int .i64 i, .int .i64 k] w fun e w' => ∃ (v : Value) (L : List Nat), e = .returned v ∧ IR w' v (up L) ∧ PTH c.p i k L ∧ Below w.heap.size w w' := by
  obtain ⟨i0, hi, hz0, hz1, hz2⟩ := info_parts Try.info3
  have hfew := h.few
  have HS : Hid (∀ w', Below w.heap.size w w' → Calls Try.prog 14 #[c.v, .int .i64 i] w' fun e w'' => ∃ (ga ca : Nat) (ah : List Int), e = .returned (.slice (some ⟨ga, 0, none⟩) c.p.length ca) ∧ (∀ (k : Nat) x, ah[k]? = some x → w''.cell? ⟨ga, k, none⟩ = some (.int .i64 x)) ∧ SPR c.p i ah ∧ Below w'.heap.size w' w'') := hide (fun w' hb => spread_any c i w' (h.keep hb))
  have HI := hide (fun w' => isIns_any c k w')
  clear h
  unfold Cp.v at *
  obtain ⟨g, o, cc, a, nm, vs, pr, bl, p⟩ := c
  dsimp only at *
  have hb0 : Hid (Below w.heap.size w (w.alloc (.cells #[nm, vs, pr, bl, .slice a p.length cc] 26))) := hide ((Below.refl _ _).alloc (Nat.le_refl _) _)
  go_enter Try.func8, Try.ntmps8
  go_wp2_with fail
  refine (HS.out _ hb0.out).mono ?_
  rintro e w1 ⟨ga, ca, ah, rfl, hcell, hspr, hb1⟩
  have x0 : w1.cell? ⟨w.heap.size, 0, none⟩ = some nm := bsome hb1 (by simp [go_sem])
  have x1 : w1.cell? ⟨w.heap.size, 1, none⟩ = some vs := bsome hb1 (by simp [go_sem])
  have x2 : w1.cell? ⟨w.heap.size, 2, none⟩ = some pr := bsome hb1 (by simp [go_sem])
  have x3 : w1.cell? ⟨w.heap.size, 3, none⟩ = some bl := bsome hb1 (by simp [go_sem])
  have x4 : w1.cell? ⟨w.heap.size, 4, none⟩ = some (.slice a p.length cc) := bsome hb1 (by simp [go_sem])
  have HC := hide hcell
  have HP := hide hspr
  have HB1 := hide (btrans hb0.out hb1)
  have hlen : ah.length = p.length := hspr.1
  clear hcell hspr hb1 HS hb0
  cases hq : Pa.isI p k with
  | false =>
    rw [hq] at HI
    have hsm := spr_none HP.out (.inl hq)
    have HPN := hide hsm
    clear hsm
    go_wp2_with fail
    refine (HI.out _).mono ?_
    rintro e w2 ⟨rfl, hb2⟩
    go_wp2
    go_ret
    exact ⟨_, [], rfl, own_ir (World.ownsRow_nil _ 0 _ _), HPN.out, btrans HB1.out hb2⟩
  | true =>
    rw [hq] at HI
    obtain ⟨k1, k2⟩ := Pa.isI_iff.1 hq
    obtain ⟨t, rfl⟩ : ∃ t : Nat, k = (t : Int) := ⟨k.toNat, by omega⟩
    have htn : t < p.length := by omega
    obtain ⟨x, hx⟩ : ∃ x, ah[t]? = some x := ⟨_, List.getElem?_eq_getElem (by omega)⟩
    have hcx := HC.out t x hx
    go_wp2_with fail
    refine (HI.out _).mono ?_
    rintro e w2 ⟨rfl, hb2⟩
    have c2 := bsome hb2 hcx
    have HB2 := hide (btrans HB1.out hb2)
    have HC2 : Hid (∀ (k : Nat) x, ah[k]? = some x → w2.cell? ⟨ga, k, none⟩ = some (.int .i64 x)) := hide (fun k x hx => bsome hb2 (HC.out k x hx))
    clear hb2 hcx HC HB1 HI x0 x1 x2 x3 x4
    by_cases hx1 : x = -1
    · subst hx1
      have HPN := hide (spr_none HP.out (.inr ⟨t, rfl, hx⟩))
      clear hx
      go_wp2
      go_ret
      exact ⟨_, [], rfl, own_ir (World.ownsRow_nil _ 0 _ _), HPN.out, HB2.out⟩
    · have b1 := beq_no hx1
      by_cases hin : Pa.isI p i = true
      rotate_left
      · exact absurd (HP.out.2.1 (by simpa using hin) t x hx) hx1
      obtain ⟨j1, j2⟩ := Pa.isI_iff.1 hin
      obtain ⟨s, rfl⟩ : ∃ s : Nat, i = (s : Int) := ⟨i.toNat, by omega⟩
      have hsn : s < p.length := by omega
      obtain ⟨ln, gg, hinv⟩ := HP.out.2.2 s rfl hsn
      have HV := hide hinv
      have htl : t ∈ ln := (hinv.mem t htn).2 (by rw [hx]; simpa using hx1)
      have HTL := hide htl
      have hgt : (gg t).length ≤ p.length := by
        obtain ⟨j, hj⟩ := List.getElem?_of_mem htl
        have := inv_glen hinv j t hj
        have := hinv.few
        have := (List.getElem?_eq_some_iff.1 hj).1
        omega
      clear hinv htl hx
      go_wp2
      go_loopw [8, 9] (fun v iv wr => ∃ (u : Nat) (W tl : List Nat), iv = .int .i64 u ∧ u ∈ ln ∧ Hid (W.reverse = u :: tl ∧ gg t = gg u ++ tl) ∧ Hid (wr.ownsRow w2.heap.size 3 1 v W.length (ints (up W))) ∧ Hid (Below w2.heap.size w2 wr)) (fun _ iv _ => (gg (intOf iv).toNat).length)
      case atStart => exact ⟨t, [t], [], rfl, HTL.out, hide ⟨rfl, by simp⟩, hide (own_first w2 (.int .i64 (t : Int))), hide ((Below.refl _ _).alloc (Nat.le_refl _) _)⟩
      case round =>
        obtain ⟨u, W, tl, rfl, hul, HW, HO, HB⟩ := hrel
        have hs1 := HB.out.size
        have hWl : W.length ≤ 300 := by
          have h1 := congrArg List.length HW.out.1
          have h2 := congrArg List.length HW.out.2
          obtain ⟨j, hj⟩ := List.getElem?_of_mem hul
          have := HV.out.gpos hj
          simp at h1 h2
          omega
        by_cases hus : u = s
        · subst hus
          have b2 : ((u : Int) != (u : Int)) = false := by simp
          obtain ⟨gr, capr, rfl, hcr⟩ := own_form (l := up W) (by rw [up_len]; exact HO.out) (by rw [up_len]; have h1 := congrArg List.length HW.out.1; simp at h1; omega)
          have hgr := HO.out.lt gr rfl
          have hfz : ∀ k, wr.frozen? ⟨gr, k, none⟩ = false := fun k => by
            rcases HO.out.2 with ⟨hv, -⟩ | ⟨g2, cap2, cur2, hv, -, hg2, -⟩
            · cases hv
            · simp at hv
              obtain ⟨rfl, -, -⟩ := hv
              simp [World.frozen?, hg2]
          have CR := hide (reverse_any w2.heap.size gr capr (up W) w2 wr hgr.1 HB.out hcr hfz (by rw [up_len]; omega))
          have HL : Hid (up (gg t) = (up W).reverse) := hide (by
            have h1 := HW.out.1
            have h2 := HW.out.2
            rw [HV.out.zg] at h2
            rw [h2]
            show up (u :: tl) = _
            rw [← h1]
            simp [up])
          clear hcr hfz HO
          go_wp2_with fail
          refine CR.out.mono ?_
          rintro e w3 ⟨rfl, hc3, hb3⟩
          have HC3 := hide hc3
          clear hc3 CR
          go_wp2
          go_ret
          refine ⟨_, gg t, rfl, ⟨some ⟨gr, 0, none⟩, capr, ?_, fun _ => ⟨gr, 0, rfl, fun k x hx => ?_⟩⟩, .inl ⟨u, t, rfl, rfl, hsn, htn, inv_best HV.out HTL.out, hgt⟩, btrans HB2.out hb3⟩
          · rw [HL.out]; simp
          · rw [HL.out] at hx
            rw [Nat.zero_add]
            exact HC3.out k x hx
        · have b2 : ((u : Int) != (s : Int)) = true := by simp; omega
          obtain ⟨j, hj⟩ := List.getElem?_of_mem hul
          have hj0 : 0 < j := by
            rcases Nat.eq_zero_or_pos j with e | e
            · subst e; rw [HV.out.z] at hj; cases hj; exact absurd rfl hus
            · exact e
          obtain ⟨ii, uu, -, -, q3, q4, -, q6, -⟩ := HV.out.par j u hj0 hj
          have hun : u < p.length := HV.out.lt u hul
          have c3 := bsome HB.out (HC2.out u _ q4)
          have R : Hid ((W ++ [uu]).reverse = uu :: (u :: tl) ∧ gg t = gg uu ++ (u :: tl)) := hide ⟨by rw [List.reverse_append, HW.out.1]; rfl, by rw [HW.out.2, q6]; simp⟩
          have hM : (gg uu).length < (gg u).length := by rw [q6]; simp
          have huu : uu ∈ ln := List.mem_of_getElem? q3
          clear q3 q4 q6 hj HW
          go_wp2_with (at_builtin; refine wpList_append_lies _ rfl _ _ 30 rfl w2.heap.size 3 i0 (.int .i64 0) 1 8 Try.underlying30 hi hz0 hz1 hz2 rfl (by decide) _ _ _ rfl (HO.out.alloc _) ⟨wr.heap.size, 0, none⟩ 1 1 [.int .i64 uu] rfl rfl (by exact cell_one_new _ _ _) ?c2 (by decide) ?c4 ?c5 ?c6 _ rfl ?_)
          case c2 => first | rfl | (intro u hu; simp at hu; subst hu; rfl)
          case c4 => unfold maxLen; omega
          case c5 => omega
          case c6 => first | omega | (simp; omega)
          intro gn cap w3 hown hgrow hat hlt2
          have HB3 : Hid (Below w2.heap.size w2 w3) := hide ((HB.out.alloc hs1 _).grown hgrow (by simp; omega) (fun j hj => (HO.out.lt j hj).1))
          have HO3 : Hid (w3.ownsRow w2.heap.size 3 1 (.slice (some ⟨gn, 0, none⟩) (W.length + 1) cap) (W ++ [uu]).length (ints (up (W ++ [uu])))) := by
            rw [up_app, ints_app, List.length_append]
            exact hown
          clear hown hgrow hat HO HB
          go_wp2
          go_roundw
          case rel => exact ⟨uu, W ++ [uu], u :: tl, rfl, huu, R, HO3, HB3⟩
          case measure => simpa [intOf] using hM
end Go.Proofs.Ytfngmdebmedkjae

import Derived.Test.YtibhbbgpeckkfaaRnkJ
import Derived.Test.YtibhbbgpeckkfaaRnkL
import Derived.BigRegion
/- The law RanksOrder. -/
namespace Go.Proofs.Ytibhbbgpeckkfaa
open Go.RowKit

theorem Rk.Rks.lt {n : Nat} {E : Rk.Eg} {r : Nat → Nat} (h : Rk.Rks n E r) (hE : Rk.In n E) {v : Nat} (hv : v < n) : r v < n := by
  obtain ⟨l, h1, h2⟩ := h.way v hv
  rcases Nat.lt_or_ge (r v) n with h3 | h3
  · exact h3
  · exact absurd (Rk.cyc_long hE (by omega) h1 (by simp; omega)) h.acyc
theorem ch_more {E : Rk.Eg} {wk : List Nat} {a k : Nat} (h : Rk.Ch E wk) (hl : wk[wk.length - 1]? = some a) (he : (a, k) ∈ E) : Rk.Ch E (wk ++ [k]) ∧ (wk ++ [k])[(wk ++ [k]).length - 1]? = some k := by
  refine ⟨?_, by simp⟩
  rcases List.eq_nil_or_concat wk with rfl | ⟨p, q, rfl⟩
  · simp at hl
  · rw [List.concat_eq_append] at h hl ⊢
    have hq : q = a := by simpa using hl
    have := Rk.Ch.snoc h (b := k) (hq ▸ he)
    simpa using this
theorem own_new (w : World) (x : Nat) : (w.alloc (.cells #[.int .i64 x] 3)).ownsRow w.heap.size 3 1 (.slice (some ⟨w.heap.size, 0, none⟩) 1 1) 1 (ints (up [x])) := by
  refine ⟨rfl, .inr ⟨w.heap.size, 1, #[.int .i64 x], rfl, Nat.le_refl _, ?_, Nat.le_refl _, by decide, rfl, rfl⟩⟩
  show (Array.push _ _)[w.heap.size]? = _
  rw [Array.getElem?_push, if_pos rfl]
theorem own_base {w : World} {B B' : Nat} {v : Value} {n : Nat} {xs : List Value} (h : w.ownsRow B 3 1 v n xs) (hb : B' ≤ B) : w.ownsRow B' 3 1 v n xs := by
  refine ⟨h.1, ?_⟩
  rcases h.2 with h | ⟨g, cap, cur, hv, hg, rest⟩
  · exact .inl h
  · exact .inr ⟨g, cap, cur, hv, Nat.le_trans hb hg, rest⟩
theorem own_cells {w : World} {B : Nat} {va : Option Addr} {vc : Nat} {wk : List Nat} (h : w.ownsRow B 3 1 (.slice va wk.length vc) wk.length (ints (up wk))) : ∀ j, j < wk.length → ∃ g, va = some ⟨g, 0, none⟩ ∧ w.cell? ⟨g, j, none⟩ = some (.int .i64 ((Rk.g wk j : Nat) : Int)) := by
  intro j hj
  rcases h.2 with ⟨hv, h0⟩ | ⟨g, cap, cur, hv, -⟩
  · omega
  · obtain ⟨rfl, -⟩ : va = some ⟨g, 0, none⟩ ∧ vc = cap := by simpa using hv
    refine ⟨g, rfl, ?_⟩
    have := h.cells (g := g) rfl j (.int .i64 ((Rk.g wk j : Nat) : Int)) (by
      have := up_g (o := wk) (v := j) hj
      simp [ints, this])
    rwa [add_off] at this
theorem wrap_sm {x : Nat} (h : x ≤ 1000000) : wrap64 (((x : Nat) : Int) + 1) = ((x : Nat) : Int) + 1 := by unfold wrap64; omega
theorem wrap_sm' {x : Nat} (h : x ≤ 1000000) : IntKind.i64.wrap (((x : Nat) : Int) + 1) = ((x : Nat) : Int) + 1 := by rw [IntKind.wrap_i64]; omega
theorem beq0 (x : Nat) : (((x : Nat) : Int) == 0) = (x == 0) := by rw [Bool.eq_iff_iff]; simp
/-- Some other rank is one below. -/
def Fr (E : Rk.Eg) (r : Nat → Nat) (b a : Nat) (f : Bool) : Prop := f = true ↔ (r b = 0 ∨ ∃ x, x < a ∧ (x, b) ∈ E ∧ r b = r x + 1)
theorem Fr.zero {E : Rk.Eg} {r : Nat → Nat} {b : Nat} {f : Bool} (h : (r b == 0) = f) : Fr E r b 0 f := by
  subst h
  unfold Fr
  simp
theorem Fr.next {E : Rk.Eg} {r : Nat → Nat} {b a : Nat} {f : Bool} (h : Fr E r b a f) : Fr E r b (a + 1) (f || (hasE E a b && decide (r b = r a + 1))) := by
  unfold Fr at h ⊢
  rw [Bool.or_eq_true, h, Bool.and_eq_true, decide_eq_true_iff]
  unfold hasE
  rw [decide_eq_true_iff]
  constructor
  · rintro ((h1 | ⟨x, h1, h2⟩) | ⟨h1, h2⟩)
    · exact .inl h1
    · exact .inr ⟨x, by omega, h2⟩
    · exact .inr ⟨a, by omega, h1, h2⟩
  · rintro (h1 | ⟨x, h1, h2, h3⟩)
    · exact .inl (.inl h1)
    · by_cases hx : x = a
      · subst hx
        exact .inr ⟨h2, h3⟩
      · exact .inl (.inr ⟨x, by omega, h2, h3⟩)
theorem Fr.done {n : Nat} {E : Rk.Eg} {r : Nat → Nat} {b : Nat} {f : Bool} (h : Fr E r b n f) (hE : Rk.In n E) (hr : Rk.Rks n E r) (hb : b < n) : f = true := by
  unfold Fr at h
  rw [h]
  rcases hr.prev hb with h1 | ⟨a, h1, h2⟩
  · exact .inl h1
  · exact .inr ⟨a, (hE _ h1).1, h1, h2⟩
def Gb3 (n : Int) (L : List (Int × Int)) (m : Nat) (b : Bool) : Prop := b = true ↔ ¬ (1 ≤ n ∧ n ≤ 60 ∧ L.length ≤ 300 ∧ m ≤ 200 ∧ (gfl n L).1 = 0)

set_option maxRecDepth 100000 in
set_option maxHeartbeats 4000000 in
theorem rorder_any (n : Int) (L : List (Int × Int)) (v vp : Value) (pk : List Int) (w : World) (h : ER w v L) (hp : IR w vp pk) (hll : L.length ≤ 9223372036854775807) (hlp : pk.length ≤ 9223372036854775807) :
    Calls Try.prog 4 #[.int .i64 n, v, vp] w fun e w' => e = .returned (.bool true) ∧ Below w.heap.size w w' := by
  have HW := hide h
  have HP0 := hide hp
  have HLL := hide (And.intro hll hlp)
  obtain ⟨a, c, rfl, -⟩ := h
  obtain ⟨ap, cp, rfl, -⟩ := hp
  clear hll hlp
  go_enter Try.func4, Try.ntmps4
  go_wp2_with fail
  refine (rbegun_any _).mono ?_
  rintro e w1 ⟨rfl, hb1⟩
  have HB1 := hide hb1
  clear hb1
  have hfd := field_fault
  go_upto_region 3 with fail
  go_cut [48] from 26 (fun v48 wx => ∃ b : Bool, v48 = .bool b ∧ Hid (Gb3 n L pk.length b) ∧ Hid (Below w.heap.size w wx))
  case first =>
    as_aux_lemma =>
      by_cases h1 : n < 1
      · have e3 : Hid (Gb3 n L pk.length true) := hide (by unfold Gb3; simp; omega)
        go_wp2
        go_meet
        case rel => exact ⟨_, rfl, e3, HB1⟩
      · have d1 : decide (n < 1) = false := by simpa using h1
        by_cases h2 : 60 < n
        · have e3 : Hid (Gb3 n L pk.length true) := hide (by unfold Gb3; simp; omega)
          go_wp2
          go_meet
          case rel => exact ⟨_, rfl, e3, HB1⟩
        · have d2 : decide (60 < n) = false := by simpa using h2
          by_cases h3 : 300 < L.length
          · have d3 : (300 : Int) < (L.length : Int) := by omega
            have e3 : Hid (Gb3 n L pk.length true) := hide (by unfold Gb3; simp; omega)
            go_wp2
            go_meet
            case rel => exact ⟨_, rfl, e3, HB1⟩
          · have d3 : decide ((300 : Int) < (L.length : Int)) = false := by simp; omega
            by_cases h5 : 200 < pk.length
            · have d5 : (200 : Int) < (pk.length : Int) := by omega
              have e3 : Hid (Gb3 n L pk.length true) := hide (by unfold Gb3; simp; omega)
              go_wp2
              go_meet
              case rel => exact ⟨_, rfl, e3, HB1⟩
            · have d5 : decide ((200 : Int) < (pk.length : Int)) = false := by simp; omega
              have HWC := hide (HW.out.keep HB1.out)
              by_cases h4 : (gfl n L).1 = 0
              · have e3 : Hid (Gb3 n L pk.length false) := hide (by unfold Gb3; simp [h4]; omega)
                have d4 : ((gfl n L).1 == 0) = true := by simpa using h4
                go_wp2_with fail
                refine (rkCheck_any n L _ _ HWC.out).mono ?_
                rintro e w2 ⟨rfl, hb2⟩
                have HB2 := hide (btrans HB1.out hb2)
                clear hb2
                go_wp2
                go_meet
                case rel => exact ⟨_, rfl, e3, HB2⟩
              · have e3 : Hid (Gb3 n L pk.length ((gfl n L).1 != 0)) := hide (by
                  have e : ((gfl n L).1 != 0) = true := by simpa using h4
                  rw [e]
                  unfold Gb3
                  simp [h4])
                have d4 : ((gfl n L).1 == 0) = false := by simpa using h4
                go_wp2_with fail
                refine (rkCheck_any n L _ _ HWC.out).mono ?_
                rintro e w2 ⟨rfl, hb2⟩
                have HB2 := hide (btrans HB1.out hb2)
                clear hb2
                go_wp2
                go_meet
                case rel => exact ⟨_, rfl, e3, HB2⟩
  case rest =>
    obtain ⟨b, rfl, HG, HB2⟩ := hcut
    cases b with
    | true =>
      go_wp2
      go_ret
      exact ⟨rfl, HB2.out⟩
    | false =>
      have hnb : 1 ≤ n ∧ n ≤ 60 ∧ L.length ≤ 300 ∧ pk.length ≤ 200 ∧ (gfl n L).1 = 0 := by
        have := HG.out
        unfold Gb3 at this
        simpa using this
      obtain ⟨hn1, hn60, hl, hpl, hg0⟩ := hnb
      obtain ⟨hg1, -, N, E, rfl, -, rfl, hIn⟩ := gfl_ok hg0
      have HIn := hide hIn
      rw [up2_len] at *
      have HE0 := hide (HW.out.keep HB2.out)
      have HP2 := hide (HP0.out.keep HB2.out)
      have HNN : Hid ((N : Int) ≤ 60) := hide hn60
      clear HG hIn hg0 HB1 HW HP0
      go_wp2_with fail
      refine (rkRanks_any N (up2 E) _ _ HE0.out (fun _ => HNN.out)).mono ?_
      intro e w4 h4
      obtain ⟨a4, c4, o4, F4, rfl, hi4, hb4, hr4, -⟩ := h4.two hg1
      have HR4 := hide hr4
      have HI4 := hide hi4
      have HE4 := hide (HE0.out.keep hb4)
      have HP4 := hide (HP2.out.keep hb4)
      have HB4 := hide (btrans HB2.out hb4)
      clear h4 hi4 hb4 hr4 HE0 HP2 HB2
      go_wp2_with fail
      refine (rkRound_any N (up2 E) _ _ (HE4.out.keep ((Below.refl _ _).alloc (Nat.le_refl _) _)) (fun _ => HNN.out)).mono ?_
      intro e w6 h6
      obtain ⟨a6, c6, o6, rfl, hi6, hb6, hr6⟩ := h6.two hg1
      have kb : Below w4.heap.size w4 w6 := btrans ((Below.refl _ _).alloc (Nat.le_refl _) _) hb6
      have z8 : w6.cell? ⟨w4.heap.size, 0, none⟩ = some (.int .i64 F4.1) := bsome hb6 (by simp [go_sem])
      have hb8 := World.block_lt_of_cell? _ _ z8
      have HR6 := hide hr6
      have HI6 := hide hi6
      have HI4' := hide (HI4.out.keep kb)
      have HE6 := hide (HE4.out.keep kb)
      have HP6 := hide (HP4.out.keep kb)
      have HB6 := hide (btrans HB4.out kb)
      have hl4 := HR4.out.len
      have hl6 := HR6.out.le HIn.out
      clear h6 hi6 hb6 hr6 kb HI4 HE4 HP4 HB4
      obtain ⟨Zr, hZr, mkr⟩ := make_rows N (by omega)
      obtain ⟨Zb, hZb, mkb⟩ := make_bools N (by omega)
      have HZr := hide hZr
      have HZb := hide hZb
      clear hZr hZb
      go_upto_region 7 with fail
      go_cut [72] from 61 (fun v72 wx => v72 = .bool false ∧ wx = w6.alloc (.cells #[.int .i64 0, .int .i64 0] 25))
      case first =>
        as_aux_lemma =>
          rcases HR4.out with ⟨rfl, hk4, hr4⟩ | ⟨rfl, rfl, hcy⟩
          · have e6 : o6 = [] := by
              rcases HR6.out with ⟨h, -⟩ | ⟨h, -⟩
              · exact h
              · exact absurd h.cyc hr4.acyc
            subst e6
            clear hr4
            go_wp2
            go_meet
            case rel => exact ⟨rfl, rfl⟩
          · have hpos := HR6.out.pos hcy
            have d9 : ((o6.length : Int) == 0) = false := by simp only [beq_eq_false_iff_ne]; omega
            have d9' : (o6.length == 0) = false := by simp only [beq_eq_false_iff_ne]; omega
            clear hcy
            go_wp2
            go_meet
            case rel => exact ⟨rfl, rfl⟩
      case rest =>
        obtain ⟨rfl, rfl⟩ := hcut
        obtain ⟨W, hW⟩ : ∃ W, w6.alloc (.cells #[.int .i64 0, .int .i64 0] 25) = W := ⟨_, rfl⟩
        have kb : Below w6.heap.size w6 W := by rw [← hW]; exact (Below.refl _ _).alloc (Nat.le_refl _) _
        have y8 := bsome kb z8
        have HI6' := hide (HI6.out.keep kb)
        have HI4 := hide (HI4'.out.keep kb)
        have HE7 := hide (HE6.out.keep kb)
        have HP7 := hide (HP6.out.keep kb)
        have HB7 := hide (btrans HB6.out kb)
        rw [hW]
        clear kb hW z8 HI6 HI4' HE6 HP6 HB6 hb8
        go_wp2
        have HBD : Hid (∀ x, x < N → Rk.g o4 x ≤ 1000000) := hide (fun x hx => by
          rcases HR4.out with ⟨-, -, hr⟩ | ⟨-, h, -⟩
          · have := hr.lt HIn.out hx; omega
          · rw [h]; simp [Rk.g])
        obtain ⟨hb, hhb⟩ : ∃ hb, W.heap.size = hb := ⟨_, rfl⟩
        have HH0 : Hid (HP hb N 0 (fun _ => 0) (W.alloc (.cells Zr 37))) := hide (by rw [← hhb]; exact HP.zero W Zr N _ HZr.out)
        have HK0 : Hid (Below hb W (W.alloc (.cells Zr 37))) := hide (by rw [← hhb]; exact (Below.refl _ _).alloc (Nat.le_refl _) _)
        rw [hhb]
        generalize W.alloc (.cells Zr 37) = W1 at *
        clear mkr HZr
        go_loopw [12] (fun iv wr => ∃ (i : Nat) (gs : Nat → Nat), i ≤ N ∧ iv = .int .i64 i ∧ Hid (HP hb N i gs wr) ∧ Hid (Below hb W wr) ∧ Hid (∀ j, j < i → hb ≤ gs j)) (fun iv _ => N - (intOf iv).toNat)
        case atStart => exact ⟨0, _, Nat.zero_le _, rfl, HH0, HK0, hide (fun j hj => absurd hj (Nat.not_lt_zero _))⟩
        case round =>
          obtain ⟨i, gs, hi, rfl, HH, HK, HGS⟩ := hrel
          by_cases hlt : i < N
          · have d2 : decide ((i : Int) < (N : Int)) = true := by simp; omega
            have i1 : (0 : Int) ≤ (i : Int) := by omega
            have i2 : (i : Int) < (N : Int) := by omega
            have hbl := HH.out.hlt
            have c0 := HH.out.rest i (Nat.le_refl _) hlt
            have f0 := HH.out.thb i
            have HN2 := HH.out.next hlt Zb HZb.out
            rw [World.setCell_alloc_past _ _ _ _ hbl] at HN2
            have HN3 := hide HN2
            have HK2 : Hid (Below hb W ((wr.setCell ⟨hb, i, none⟩ (.slice (some ⟨wr.heap.size, 0, none⟩) N N)).alloc (.cells Zb 4))) := hide ((HK.out.setCell (Nat.le_refl _) _).alloc (by have := HK.out.size; simp [World.setCell]; omega) _)
            have HGS2 : Hid (∀ j, j < i + 1 → hb ≤ (if j = i then wr.heap.size else gs j)) := hide (fun j hj => by
              by_cases hji : j = i
              · rw [if_pos hji]; have := HK.out.size; omega
              · rw [if_neg hji]; exact HGS.out j (by omega))
            clear HN2 HH HK
            go_wp2
            go_roundw
            case rel => exact ⟨i + 1, _, by omega, by go_num, HN3, HK2, HGS2⟩
            case measure => simp [intOf]; omega
          · obtain rfl : i = N := by omega
            have d2 : decide ((i : Int) < (i : Int)) = false := by simp
            have HM0 := hide HH.out.done
            have HGE : Hid (∀ j, j < i → hb ≤ gs j) := HGS
            have HE8 : Hid (ER wr (.slice a E.length c) (up2 E)) := hide (HE7.out.keep (by rw [hhb]; exact HK.out))
            clear HH HH0 HK0 mkb HZb
            obtain ⟨wo, hwo⟩ : ∃ wo, wr = wo := ⟨_, rfl⟩
            subst wr
            go_wp2
            go_loopw [13] (fun iv wr => ∃ t : Nat, t ≤ E.length ∧ iv = .int .i64 t ∧ Hid (HM hb i gs wr (hasE (E.take t))) ∧ Hid (Below hb W wr)) (fun iv _ => E.length - (intOf iv).toNat)
            case atStart => exact ⟨0, Nat.zero_le _, rfl, hide (HM0.out.same (fun x y => by simp [hasE])), HK⟩
            case round =>
              obtain ⟨t, ht, rfl, HM1, HK1⟩ := hrel
              have HE9 : Hid (ER wr (.slice a E.length c) (up2 E)) := hide (HE7.out.keep (by rw [hhb]; exact HK1.out))
              by_cases hlt2 : t < E.length
              · as_aux_lemma =>
                  have d3 : decide ((t : Int) < (E.length : Int)) = true := by simp; omega
                  obtain ⟨e, he⟩ : ∃ e, E[t]? = some e := ⟨_, List.getElem?_eq_getElem hlt2⟩
                  obtain ⟨a5, c5, e5, h5⟩ := HE9.out
                  obtain ⟨rfl, -, rfl⟩ : a = a5 ∧ True ∧ c = c5 := by rw [up2_len] at e5; simpa using e5
                  obtain ⟨g, off, rfl, q⟩ := h5 (up2_ne hlt2)
                  have c0 := (q t _ (up2_get he)).1
                  have c1 := (q t _ (up2_get he)).2
                  have hE1 := HIn.out e (List.mem_of_getElem? he)
                  have r0 := HM1.out.row e.1 hE1.1
                  have m0 := HM1.out.at' e.1 e.2 hE1.1 hE1.2
                  have f0 := HM1.out.thaw e.1 e.2 hE1.1
                  have HM2 : Hid (HM hb i gs (wr.setCell ⟨gs e.1, e.2, none⟩ (.bool true)) (hasE (E.take (t + 1)))) := hide ((HM1.out.set hE1.1 hE1.2).same (fun x y => hasE_next he x y))
                  have HK2 : Hid (Below hb W (wr.setCell ⟨gs e.1, e.2, none⟩ (.bool true))) := hide (HK1.out.setCell (HGE.out e.1 hE1.1) _)
                  clear q he h5 e5
                  obtain ⟨ea, eb⟩ := e
                  simp only at c0 c1 r0 m0 f0 hE1 HM2 HK2
                  generalize hasE (E.take t) ea eb = bb at *
                  have t1 : (0 : Int) ≤ (t : Int) := by omega
                  have t2 : (t : Int) < (E.length : Int) := by omega
                  have p0 : (0 : Int) ≤ (ea : Int) := by omega
                  have p1 : (ea : Int) < (i : Int) := by omega
                  have p2 : (0 : Int) ≤ (eb : Int) := by omega
                  have p3 : (eb : Int) < (i : Int) := by omega
                  clear HM1 HK1
                  go_wp2
                  go_region
                  go_wp2
                  go_roundw
                  case rel => exact ⟨t + 1, by omega, by go_num, hide (HM2.out.keep (below_drewN (Below.refl _ _) 1)), hide (below_drewN HK2.out 1)⟩
                  case measure => simp [intOf]; omega
              · as_aux_lemma =>
                  obtain rfl : t = E.length := by omega
                  have d3 : decide ((E.length : Int) < (E.length : Int)) = false := by simp
                  rw [List.take_length] at HM1
                  have HIr := hide (HI4.out.keep (by rw [hhb]; exact HK1.out))
                  have HIo := hide (HI6'.out.keep (by rw [hhb]; exact HK1.out))
                  have HIp := hide (HP7.out.keep (by rw [hhb]; exact HK1.out))
                  have kW : Below W.heap.size W wr := by rw [hhb]; exact HK1.out
                  have x8 := bsome kW y8
                  have HBq := hide (btrans HB7.out kW)
                  obtain ⟨wq, hwq⟩ : ∃ wq, wr = wq := ⟨_, rfl⟩
                  subst wr
                  clear kW y8 HI4 HI6' HP7 HB7 HK1 HE7 HE8 HE9 HM0 HK HGS HGE
                  rcases HR4.out with ⟨rfl, hk4, hr4⟩ | ⟨rfl, rfl, hcy⟩
                  · as_aux_lemma =>
                      have HRk := hide hr4
                      have hi1 : 1 ≤ i := by omega
                      clear hr4 HR4
                      obtain ⟨aA, cA, eA, hA⟩ := HIr.out
                      obtain ⟨rfl, -, rfl⟩ : a4 = aA ∧ True ∧ c4 = cA := by rw [up_len] at eA; simpa using eA
                      obtain ⟨gA, oA, rfl, qA⟩ := hA (fun e => by have := congrArg List.length e; rw [up_len, List.length_nil] at this; omega)
                      have QA : Hid (∀ x, x < i → wq.cell? ⟨gA, oA + x, none⟩ = some (.int .i64 ((Rk.g o4 x : Nat) : Int))) := hide (fun x hx => qA x _ (up_g (o := o4) (v := x) (by omega)))
                      have HBd : Hid (∀ x, x < i → Rk.g o4 x ≤ 1000000) := HBD
                      clear qA hA eA
                      rw [hk4] at *
                      go_wp2
                      go_loopw [14] (fun bv wr => ∃ b m : Nat, b ≤ i ∧ bv = .int .i64 b ∧ wr = wq.drewN m) (fun bv _ => i - (intOf bv).toNat)
                      case atStart => exact ⟨0, 0, Nat.zero_le _, rfl, rfl⟩
                      case round =>
                        obtain ⟨b, m, hb', rfl, rfl⟩ := hrel
                        by_cases hltb : b < i
                        · have d5 : decide ((b : Int) < (i : Int)) = true := by simp; omega
                          have b1 : (0 : Int) ≤ (b : Int) := by omega
                          have b2 : (b : Int) < (i : Int) := by omega
                          have cb := QA.out b hltb
                          have kb := HBd.out b hltb
                          obtain ⟨f0, hf0⟩ : ∃ f0 : Bool, (((Rk.g o4 b : Nat) : Int) == 0) = f0 := ⟨_, rfl⟩
                          have hf0' : (Rk.g o4 b == 0) = f0 := by rw [← hf0, beq0]
                          go_wp2
                          have HF0 := hide (Fr.zero (E := E) (r := Rk.g o4) hf0')
                          clear hf0 hf0'
                          go_loopw [15, 16] (fun fv av wr => ∃ (aa m : Nat) (f : Bool), aa ≤ i ∧ fv = .bool f ∧ av = .int .i64 aa ∧ wr = wq.drewN m ∧ Hid (Fr E (Rk.g o4) b aa f)) (fun _ av _ => i - (intOf av).toNat)
                          case atStart => exact ⟨0, m, f0, Nat.zero_le _, rfl, rfl, rfl, HF0⟩
                          case round =>
                            obtain ⟨aa, m2, f, haa, rfl, rfl, rfl, HF⟩ := hrel
                            by_cases hlta : aa < i
                            · as_aux_lemma =>
                                have d6 : decide ((aa : Int) < (i : Int)) = true := by simp; omega
                                have a1 : (0 : Int) ≤ (aa : Int) := by omega
                                have a2 : (aa : Int) < (i : Int) := by omega
                                have ca := QA.out aa hlta
                                have r0 := HM1.out.row aa hlta
                                have m0 := HM1.out.at' aa b hlta hltb
                                have hs1 := wrap_sm (HBd.out aa hlta)
                                have hs2 := wrap_sm' (HBd.out aa hlta)
                                have HF2 := hide HF.out.next
                                cases hh : hasE E aa b with
                                | false =>
                                  as_aux_lemma =>
                                    rw [hh] at m0 HF2
                                    cases f with
                                    | true =>
                                      simp only [Bool.true_or] at HF2
                                      go_wp2
                                      go_quiet (fail)
                                      go_wp2
                                      go_quiet (fail)
                                      go_wp2
                                      go_roundw
                                      case rel => exact ⟨aa + 1, _, true, by omega, rfl, by go_num, rfl, HF2⟩
                                      case measure => simp [intOf]; omega
                                    | false =>
                                      simp only [Bool.false_and, Bool.false_or] at HF2
                                      go_wp2
                                      go_quiet (fail)
                                      go_wp2
                                      go_quiet (fail)
                                      go_wp2
                                      go_roundw
                                      case rel => exact ⟨aa + 1, _, false, by omega, rfl, by go_num, rfl, HF2⟩
                                      case measure => simp [intOf]; omega
                                | true =>
                                  as_aux_lemma =>
                                    have hmem : (aa, b) ∈ E := by unfold hasE at hh; simpa using hh
                                    have hup := HRk.out.up _ hmem
                                    simp only at hup
                                    have dl : decide (((Rk.g o4 b : Nat) : Int) ≤ ((Rk.g o4 aa : Nat) : Int)) = false := by simp; omega
                                    have dl' : decide (Rk.g o4 b ≤ Rk.g o4 aa) = false := by simp; omega
                                    rw [hh] at m0 HF2
                                    clear hmem hup
                                    cases f with
                                    | true =>
                                      simp only [Bool.true_or] at HF2
                                      go_wp2
                                      go_quiet (fail)
                                      go_wp2
                                      go_quiet (fail)
                                      go_wp2
                                      go_roundw
                                      case rel => exact ⟨aa + 1, _, true, by omega, rfl, by go_num, rfl, HF2⟩
                                      case measure => simp [intOf]; omega
                                    | false =>
                                      simp only [Bool.true_and, Bool.false_or] at HF2
                                      by_cases he : Rk.g o4 b = Rk.g o4 aa + 1
                                      · have de : (((Rk.g o4 b : Nat) : Int) == ((Rk.g o4 aa : Nat) : Int) + 1) = true := by simp; omega
                                        have e9 : decide (Rk.g o4 b = Rk.g o4 aa + 1) = true := by simpa using he
                                        rw [e9] at HF2
                                        clear e9 he
                                        go_wp2
                                        go_quiet (fail)
                                        go_wp2
                                        go_quiet (fail)
                                        go_wp2
                                        go_roundw
                                        case rel => exact ⟨aa + 1, _, true, by omega, rfl, by go_num, rfl, HF2⟩
                                        case measure => simp [intOf]; omega
                                      · have de : (((Rk.g o4 b : Nat) : Int) == ((Rk.g o4 aa : Nat) : Int) + 1) = false := by simp; omega
                                        have e9 : decide (Rk.g o4 b = Rk.g o4 aa + 1) = false := by simpa using he
                                        rw [e9] at HF2
                                        clear e9 he
                                        go_wp2
                                        go_quiet (fail)
                                        go_wp2
                                        go_quiet (fail)
                                        go_wp2
                                        go_roundw
                                        case rel => exact ⟨aa + 1, _, false, by omega, rfl, by go_num, rfl, HF2⟩
                                        case measure => simp [intOf]; omega
                            · obtain rfl : aa = i := by omega
                              have d6 : decide ((aa : Int) < (aa : Int)) = false := by simp
                              have hft := HF.out.done HIn.out HRk.out hltb
                              subst hft
                              clear HF HF0
                              go_wp2
                              go_roundw
                              case rel => exact ⟨b + 1, _, by omega, by go_num, rfl⟩
                              case measure => simp [intOf]; omega
                        · obtain rfl : b = i := by omega
                          have d5 : decide ((b : Int) < (b : Int)) = false := by simp
                          go_wp2
                          go_ret
                          exact ⟨rfl, btrans HBq.out (below_drewN (Below.refl _ _) _)⟩
                  · as_aux_lemma =>
                      have HCy := hide hcy
                      have hop := HR6.out.pos hcy
                      have hcl : Rk.Cl E o6 := by
                        rcases HR6.out with ⟨-, h⟩ | ⟨h, -⟩
                        · exact absurd hcy h
                        · exact h
                      have HCl := hide hcl
                      clear hcy hcl HR4 HIr
                      obtain ⟨aO, cO, eO, hO⟩ := HIo.out
                      obtain ⟨rfl, -, rfl⟩ : a6 = aO ∧ True ∧ c6 = cO := by rw [up_len] at eO; simpa using eO
                      obtain ⟨gO, oO, rfl, qO⟩ := hO (fun e => by have := congrArg List.length e; rw [up_len, List.length_nil] at this; omega)
                      have QO : Hid (∀ x, x < o6.length → wq.cell? ⟨gO, oO + x, none⟩ = some (.int .i64 ((Rk.g o6 x : Nat) : Int))) := hide (fun x hx => qO x _ (up_g (o := o6) (v := x) hx))
                      have GG : Hid (∀ x, x < o6.length → o6[x]? = some (Rk.g o6 x)) := hide (fun x hx => by simp [Rk.g, hx])
                      clear qO hO eO HIo
                      go_wp2
                      go_loopw [17] (fun tv wr => ∃ t m : Nat, t ≤ o6.length ∧ tv = .int .i64 t ∧ wr = wq.drewN m) (fun tv _ => o6.length - (intOf tv).toNat)
                      case atStart => exact ⟨0, 0, Nat.zero_le _, rfl, rfl⟩
                      case round =>
                        obtain ⟨t, m, ht', rfl, rfl⟩ := hrel
                        by_cases hltt : t < o6.length
                        · as_aux_lemma =>
                            have d5 : decide ((t : Int) < (o6.length : Int)) = true := by simp; omega
                            have t1 : (0 : Int) ≤ (t : Int) := by omega
                            have t2 : (t : Int) < (o6.length : Int) := by omega
                            have t3 : (0 : Int) < (o6.length : Int) := by omega
                            have ct := QO.out t hltt
                            have c00 := QO.out 0 hop
                            rw [Nat.add_zero] at c00
                            by_cases hlast : t + 1 < o6.length
                            · as_aux_lemma =>
                                have d6 : decide ((t : Int) + 1 < (o6.length : Int)) = true := by simp; omega
                                have t4 : (0 : Int) ≤ (t : Int) + 1 := by omega
                                have t5 : (t : Int) + 1 < (o6.length : Int) := by omega
                                have cn := QO.out (t + 1) hlast
                                have hed := HCl.out.edge (GG.out t hltt) (GG.out (t + 1) hlast)
                                have hin := HIn.out _ hed
                                have hh : hasE E (Rk.g o6 t) ((Rk.g o6 (t + 1))) = true := by unfold hasE; simpa using hed
                                have r0 := HM1.out.row _ hin.1
                                have m0 := HM1.out.at' _ _ hin.1 hin.2
                                rw [hh] at m0
                                simp only at hin
                                have p0 : (0 : Int) ≤ ((Rk.g o6 t : Nat) : Int) := by omega
                                have p1 : ((Rk.g o6 t : Nat) : Int) < (i : Int) := by omega
                                have p2 : (0 : Int) ≤ (((Rk.g o6 (t + 1)) : Nat) : Int) := by omega
                                have p3 : (((Rk.g o6 (t + 1)) : Nat) : Int) < (i : Int) := by omega
                                clear hed hh hin
                                by_cases h0t : 0 < t
                                · have d7 : (0 : Int) < (t : Int) := by omega
                                  have hfi := HR6.out.first h0t (GG.out t hltt) (GG.out 0 hop)
                                  have d8 : decide (((Rk.g o6 t : Nat) : Int) ≤ ((Rk.g o6 0 : Nat) : Int)) = false := by simp; omega
                                  have d8' : decide (Rk.g o6 t ≤ Rk.g o6 0) = false := by simp; omega
                                  clear hfi
                                  go_wp2
                                  go_quiet (fail)
                                  go_wp2
                                  go_roundw
                                  case rel => exact ⟨t + 1, _, by omega, by go_num, rfl⟩
                                  case measure => simp [intOf]; omega
                                · have d7 : decide ((0 : Int) < (t : Int)) = false := by simp; omega
                                  have d7' : decide (0 < t) = false := by simp; omega
                                  go_wp2
                                  go_quiet (fail)
                                  go_wp2
                                  go_roundw
                                  case rel => exact ⟨t + 1, _, by omega, by go_num, rfl⟩
                                  case measure => simp [intOf]; omega
                            · as_aux_lemma =>
                                have d6 : decide ((t : Int) + 1 < (o6.length : Int)) = false := by simp; omega
                                have hed := HCl.out.last (GG.out t hltt) (by omega) (GG.out 0 hop)
                                have hin := HIn.out _ hed
                                have hh : hasE E (Rk.g o6 t) ((Rk.g o6 0)) = true := by unfold hasE; simpa using hed
                                have r0 := HM1.out.row _ hin.1
                                have m0 := HM1.out.at' _ _ hin.1 hin.2
                                rw [hh] at m0
                                simp only at hin
                                have p0 : (0 : Int) ≤ ((Rk.g o6 t : Nat) : Int) := by omega
                                have p1 : ((Rk.g o6 t : Nat) : Int) < (i : Int) := by omega
                                have p2 : (0 : Int) ≤ (((Rk.g o6 0) : Nat) : Int) := by omega
                                have p3 : (((Rk.g o6 0) : Nat) : Int) < (i : Int) := by omega
                                clear hed hh hin
                                by_cases h0t : 0 < t
                                · have d7 : (0 : Int) < (t : Int) := by omega
                                  have hfi := HR6.out.first h0t (GG.out t hltt) (GG.out 0 hop)
                                  have d8 : decide (((Rk.g o6 t : Nat) : Int) ≤ ((Rk.g o6 0 : Nat) : Int)) = false := by simp; omega
                                  have d8' : decide (Rk.g o6 t ≤ Rk.g o6 0) = false := by simp; omega
                                  clear hfi
                                  go_wp2
                                  go_quiet (fail)
                                  go_wp2
                                  go_roundw
                                  case rel => exact ⟨t + 1, _, by omega, by go_num, rfl⟩
                                  case measure => simp [intOf]; omega
                                · have d7 : decide ((0 : Int) < (t : Int)) = false := by simp; omega
                                  have d7' : decide (0 < t) = false := by simp; omega
                                  go_wp2
                                  go_quiet (fail)
                                  go_wp2
                                  go_roundw
                                  case rel => exact ⟨t + 1, _, by omega, by go_num, rfl⟩
                                  case measure => simp [intOf]; omega
                        · as_aux_lemma =>
                            obtain rfl : t = o6.length := by omega
                            have d5 : decide ((o6.length : Int) < (o6.length : Int)) = false := by simp
                            go_wp2
                            obtain ⟨wb, hwb⟩ : ∃ wb, wq.drewN m = wb := ⟨_, rfl⟩
                            have kwb : Below wq.heap.size wq wb := by rw [← hwb]; exact below_drewN (Below.refl _ _) _
                            have HMb := hide (HM1.out.keep kwb)
                            have HIb := hide (HIp.out.keep kwb)
                            have HBb := hide (btrans HBq.out kwb)
                            have hws : wq.heap.size = wb.heap.size := by rw [← hwb]; rfl
                            rw [hwb, hws]
                            clear kwb hwb hws HM1 HIp HBq QO x8
                            obtain ⟨i0, hi0, hz0, hz1, hz2⟩ := info_parts Try.info3
                            have HO0 : Hid ((wb.alloc (.cells #[.int .i64 0] 3)).ownsRow wb.heap.size 3 1 (.slice (some ⟨wb.heap.size, 0, none⟩) 1 1) 1 (ints (up [0]))) := hide (own_new wb 0)
                            have HK0 : Hid (Below wb.heap.size wb (wb.alloc (.cells #[.int .i64 0] 3))) := hide ((Below.refl _ _).alloc (Nat.le_refl _) _)
                            have hwn : IntKind.u64.wrap (i : Int) = (i : Int) := by rw [IntKind.wrap_u64]; omega
                            have hnz : ¬ (i : Int) = 0 := by omega
                            have hnz' : ¬ i = 0 := by omega
                            generalize wb.alloc (.cells #[.int .i64 0] 3) = wb1 at *
                            go_loopw [19, 20, 21] (fun av kv zv wr => ∃ (z at' : Nat) (wk : List Nat) (va : Option Addr) (vc : Nat), z ≤ pk.length ∧ zv = .int .i64 z ∧ av = .int .i64 at' ∧ kv = .slice va wk.length vc ∧ wk.length ≤ z + 1 ∧ at' < i ∧ Hid (wr.ownsRow wb.heap.size 3 1 (.slice va wk.length vc) wk.length (ints (up wk))) ∧ Hid (Below wb.heap.size wb wr) ∧ Hid (Rk.Ch E wk ∧ wk[wk.length - 1]? = some at')) (fun _ _ zv _ => pk.length - (intOf zv).toNat)
                            case atStart => exact ⟨0, 0, [0], _, _, Nat.zero_le _, rfl, rfl, rfl, Nat.le_refl _, by omega, HO0, HK0, hide ⟨trivial, rfl⟩⟩
                            case round =>
                              obtain ⟨z, at', wk, va, vc, hz, rfl, rfl, rfl, hwl, hat, HO, HK, HC⟩ := hrel
                              by_cases hltz : z < pk.length
                              · as_aux_lemma =>
                                  have d7 : decide ((z : Int) < (pk.length : Int)) = true := by simp; omega
                                  obtain ⟨x, hx⟩ : ∃ x, pk[z]? = some x := ⟨_, List.getElem?_eq_getElem hltz⟩
                                  obtain ⟨aP, cP, eP, hP⟩ := (HIb.out.keep HK.out : IR wr (.slice ap pk.length cp) pk)
                                  obtain ⟨rfl, -, rfl⟩ : ap = aP ∧ True ∧ cp = cP := by simpa using eP
                                  obtain ⟨gP, oP, rfl, qP⟩ := hP (fun e => by rw [e] at hltz; simp at hltz)
                                  have cx := qP z x hx
                                  have z1 : (0 : Int) ≤ (z : Int) := by omega
                                  have z2 : (z : Int) < (pk.length : Int) := by omega
                                  obtain ⟨qk, hqk, hqe⟩ := kpick x i (by omega) (by omega)
                                  have HQE := hide hqe
                                  have r0 := (HMb.out.keep HK.out).row at' hat
                                  have m0 := (HMb.out.keep HK.out).at' at' qk hat hqk
                                  have a1 : (0 : Int) ≤ (at' : Int) := by omega
                                  have a2 : (at' : Int) < (i : Int) := by omega
                                  have a3 : (0 : Int) ≤ (qk : Int) := by omega
                                  have a4' : (qk : Int) < (i : Int) := by omega
                                  clear qP hP eP hx hqe
                                  go_upto_region 45 with fail
                                  rw [HQE.out]
                                  cases hh : hasE E at' qk with
                                  | false =>
                                    as_aux_lemma =>
                                      rw [hh] at m0
                                      have HO2 : Hid ((wr.alloc (.cells #[.int .i64 qk] 3)).ownsRow wb.heap.size 3 1 (.slice (some ⟨wr.heap.size, 0, none⟩) 1 1) 1 (ints (up [qk]))) := hide (own_base (own_new wr qk) HK.out.size)
                                      have HK2 : Hid (Below wb.heap.size wb (wr.alloc (.cells #[.int .i64 qk] 3))) := hide (HK.out.alloc HK.out.size _)
                                      clear HO HK HC
                                      go_wp2
                                      go_roundw
                                      case rel => exact ⟨z + 1, qk, [qk], _, _, by omega, by go_num, rfl, rfl, by simp, hqk, HO2, HK2, hide ⟨trivial, rfl⟩⟩
                                      case measure => simp [intOf]; omega
                                  | true =>
                                    as_aux_lemma =>
                                      rw [hh] at m0
                                      have hmem : (at', qk) ∈ E := by unfold hasE at hh; simpa using hh
                                      have HMe := hide hmem
                                      have CW := hide (own_cells HO.out)
                                      clear hmem
                                      go_wp2
                                      obtain ⟨wx, hwx⟩ : ∃ wx, wr = wx := ⟨_, rfl⟩
                                      subst wr
                                      go_loopw [23] (fun jv wr => ∃ j : Nat, j ≤ wk.length ∧ jv = .int .i64 j ∧ wr = wx) (fun jv _ => wk.length - (intOf jv).toNat)
                                      case atStart => exact ⟨0, Nat.zero_le _, rfl, rfl⟩
                                      case round =>
                                        obtain ⟨j, hj, rfl, hwr⟩ := hrel
                                        subst wr
                                        by_cases hltj : j < wk.length
                                        · have d8 : decide ((j : Int) < (wk.length : Int)) = true := by simp; omega
                                          have j1 : (0 : Int) ≤ (j : Int) := by omega
                                          have j2 : (j : Int) < (wk.length : Int) := by omega
                                          obtain ⟨gw, rfl, cw⟩ := CW.out j hltj
                                          by_cases he : Rk.g wk j = qk
                                          · have de : (((Rk.g wk j : Nat) : Int) == (qk : Int)) = true := by simp; omega
                                            have hge := HR6.out.walk HC.out.1 (j := j) (k := qk) (by rw [← he]; simp [Rk.g, hltj]) HC.out.2 HMe.out
                                            have dg : decide ((wk.length : Int) - (j : Int) < (o6.length : Int)) = false := by simp; omega
                                            clear hge he
                                            go_wp2
                                            go_roundw
                                            case rel => exact ⟨j + 1, by omega, by go_num, trivial⟩
                                            case measure => simp [intOf]; omega
                                          · have de : (((Rk.g wk j : Nat) : Int) == (qk : Int)) = false := by simp; omega
                                            clear he
                                            go_wp2
                                            go_roundw
                                            case rel => exact ⟨j + 1, by omega, by go_num, trivial⟩
                                            case measure => simp [intOf]; omega
                                        · obtain rfl : j = wk.length := by omega
                                          have d8 : decide ((wk.length : Int) < (wk.length : Int)) = false := by simp
                                          go_wp2_with (at_builtin; refine wpList_append_lies _ rfl _ _ 27 rfl wb.heap.size 3 i0 (.int .i64 0) 1 8 Try.underlying27 hi0 hz0 hz1 hz2 rfl (by decide) _ _ _ rfl (HO.out.alloc _) ⟨wx.heap.size, 0, none⟩ 1 1 [.int .i64 qk] rfl rfl ?c1 ?c2 ?c3 ?c4 ?c5 ?c6 _ rfl ?_)
                                          case c1 => exact cell_one_new _ _ _
                                          case c2 => intro u hu; simp at hu; subst hu; rfl
                                          case c3 => decide
                                          case c4 => unfold maxLen; omega
                                          case c5 => omega
                                          case c6 => have := HK.out.size; simp; omega
                                          intro gg cap w3 hown hgrow hat2 hlt3
                                          have HK3 : Hid (Below wb.heap.size wb w3) := hide ((HK.out.alloc HK.out.size _).grown hgrow (by have := HK.out.size; simp; omega) (fun j hj => (HO.out.lt j hj).1))
                                          have HO3 : Hid (w3.ownsRow wb.heap.size 3 1 (.slice (some ⟨gg, 0, none⟩) (wk ++ [qk]).length cap) (wk ++ [qk]).length (ints (up (wk ++ [qk])))) := hide (by
                                            rw [up_app wk, ints_app, List.length_append]
                                            exact hown)
                                          have HC3 : Hid (Rk.Ch E (wk ++ [qk]) ∧ (wk ++ [qk])[(wk ++ [qk]).length - 1]? = some qk) := hide (ch_more HC.out.1 HC.out.2 HMe.out)
                                          clear hown hgrow hat2 HO HK HC
                                          go_wp2
                                          go_roundw
                                          case rel => exact ⟨z + 1, qk, wk ++ [qk], _, _, by omega, by go_num, rfl, by simp, by simp; omega, hqk, HO3, HK3, HC3⟩
                                          case measure => simp [intOf]; omega
                              · obtain rfl : z = pk.length := by omega
                                have d7 : decide ((pk.length : Int) < (pk.length : Int)) = false := by simp
                                go_wp2
                                go_ret
                                exact ⟨rfl, HBb.out.trans (HK.out.mono HBb.out.size)⟩
end Go.Proofs.Ytibhbbgpeckkfaa

import Derived.Test.YtlhjbgdmjebaeaaLdG
/- The law LedgerOnce. -/
namespace Go.Proofs.Ytlhjbgdmjebaeaa
open Go.RowKit

theorem LC.after {w X w' : World} {p : Nat} {v v' : Value} (h : LC X w' p v v') (hb : Below w.heap.size w X) : LC w w' p v v' :=
  ⟨(Kx.of_below hb).trans h.k, h.n.imp id (fun ⟨b, h1, h2⟩ => ⟨b, h1, Nat.le_trans hb.size h2⟩)⟩
/-- An end was dropped just if its home says so. -/
def Gd (L : List En) : Prop := ∀ x ∈ L, -2 ≤ x.h ∧ (0 < x.d ↔ x.h = -2) ∧ 0 ≤ x.d
theorem Gd.born {L : List En} (h : Gd L) (c : Int) (s : Bool) (hm : Int) : Gd (Ld.born L c s hm) := by
  unfold Ld.born
  split
  · rename_i h1
    intro x hx
    rcases List.mem_append.1 hx with hx | hx
    · exact h x hx
    · obtain rfl := List.mem_singleton.1 hx
      exact ⟨by show -2 ≤ hm; omega, by show (0 : Int) < 0 ↔ hm = -2; omega, by show (0 : Int) ≤ 0; omega⟩
  · exact h
theorem Gd.set {L : List En} {k : Nat} (h : Gd L) {y : En} (hy : -2 ≤ y.h ∧ (0 < y.d ↔ y.h = -2) ∧ 0 ≤ y.d) : Gd (L.set k y) := by
  intro x hx
  rcases List.mem_or_eq_of_mem_set hx with hx | rfl
  · exact h x hx
  · exact hy
theorem Gd.move {L : List En} (h : Gd L) (e hm : Int) : Gd (Ld.move L e hm) := by
  unfold Ld.move
  split
  · rename_i h1
    unfold Ld.may at h1
    rcases Ld.cs L e with ⟨k, x, rfl, hx, hk, h3, h2⟩ | ⟨h3, h2, -⟩
    · rw [h3, h2] at h1
      simp only [Bool.true_and, Bool.and_eq_true, decide_eq_true_eq, Bool.not_eq_true', beq_eq_false_iff_ne] at h1
      rw [h2]
      obtain ⟨a1, a2, a3⟩ := h x (List.mem_of_getElem? hx)
      exact h.set ⟨by show -2 ≤ hm; omega, by show 0 < x.d ↔ hm = -2; omega, a3⟩
    · rw [h3] at h1
      cases h1
  · exact h
theorem Gd.gone {L : List En} (h : Gd L) (e : Int) : Gd (Ld.gone L e) := by
  unfold Ld.gone
  split
  · rename_i h1
    rcases Ld.cs L e with ⟨k, x, rfl, hx, hk, h3, h2⟩ | ⟨h3, h2, -⟩
    · rw [h2]
      obtain ⟨a1, a2, a3⟩ := h x (List.mem_of_getElem? hx)
      exact h.set ⟨by show (-2 : Int) ≤ -2; omega, by show 0 < x.d + 1 ↔ (-2 : Int) = -2; omega, by show 0 ≤ x.d + 1; omega⟩
    · rw [h3] at h1
      cases h1
  · exact h
theorem Ld.mem_of (hm : Int) : ∀ (L : List En) (i : Nat) (e : Int), e ∈ Ld.of hm i L ↔ ∃ (j : Nat) (x : En), e = ((i + j : Nat) : Int) ∧ L[j]? = some x ∧ x.h = hm := by
  intro L
  induction L with
  | nil => intro i e; simp [Ld.of]
  | cons y L ih =>
    intro i e
    have hstep : (∃ (j : Nat) (x : En), e = ((i + j : Nat) : Int) ∧ (y :: L)[j]? = some x ∧ x.h = hm) ↔ (e = (i : Int) ∧ y.h = hm) ∨ ∃ (j : Nat) (x : En), e = ((i + 1 + j : Nat) : Int) ∧ L[j]? = some x ∧ x.h = hm := by
      constructor
      · rintro ⟨j, x, rfl, hx, hh⟩
        cases j with
        | zero => simp at hx; subst hx; exact .inl ⟨rfl, hh⟩
        | succ j => exact .inr ⟨j, x, by rw [show i + (j + 1) = i + 1 + j by omega], by simpa using hx, hh⟩
      · rintro (⟨rfl, hh⟩ | ⟨j, x, rfl, hx, hh⟩)
        · exact ⟨0, y, rfl, rfl, hh⟩
        · exact ⟨j + 1, x, by rw [show i + (j + 1) = i + 1 + j by omega], by simpa using hx, hh⟩
    rw [hstep]
    simp only [Ld.of]
    split
    · rename_i hh
      rw [List.mem_cons, ih]
      simp [hh]
    · rename_i hh
      rw [ih]
      simp [hh]
theorem Ld.of_at {L : List En} {e : Nat} {x : En} (hx : L[e]? = some x) (hm : Int) : ((e : Int) ∈ Ld.of hm 0 L) ↔ x.h = hm := by
  rw [Ld.mem_of]
  constructor
  · rintro ⟨j, y, h1, h2, h3⟩
    have : e = j := by omega
    subst this
    rw [hx] at h2
    cases h2
    exact h3
  · intro h
    exact ⟨e, x, by simp, hx, h⟩
theorem Ld.at_nat {L : List En} {e : Nat} {x : En} (hx : L[e]? = some x) : Ld.at L (e : Int) = x ∧ Ld.has L (e : Int) = true := by
  have hk := (List.getElem?_eq_some_iff.1 hx).1
  refine ⟨?_, ?_⟩
  · unfold Ld.at
    rw [if_pos (by omega), Int.toNat_natCast, hx]
    rfl
  · unfold Ld.has
    rw [decide_eq_true (by omega), decide_eq_true (by omega)]
    rfl
theorem Ld.use_nat {L : List En} {e : Nat} {x : En} (hx : L[e]? = some x) (t k : Int) : Ld.use L (e : Int) t k = Ld.wh x t k := by
  unfold Ld.use
  rw [(Ld.at_nat hx).1, (Ld.at_nat hx).2, if_pos rfl]
theorem Ld.wh3 (x : En) {hm : Int} (h : 0 ≤ hm) : (Ld.wh x hm 3 == 0) = (x.h == hm) := by
  unfold Ld.wh
  by_cases h1 : x.h = -2
  · rw [if_pos h1, beq_eq_false_iff_ne.2 (show x.h ≠ hm by omega)]; rfl
  · rw [if_neg h1]
    by_cases h2 : x.h = hm
    · rw [if_pos h2, h2]; simp
    · rw [if_neg h2, beq_eq_false_iff_ne.2 h2]; rfl
theorem mem_take_succ {M : List Int} {i : Nat} {y e : Int} (hy : M[i]? = some y) : decide (e ∈ M.take (i + 1)) = (decide (e ∈ M.take i) || (y == e)) := by
  rw [List.take_add_one, hy]
  show decide (e ∈ M.take i ++ [y]) = _
  rw [Bool.eq_iff_iff, Bool.or_eq_true, decide_eq_true_eq, decide_eq_true_eq, beq_iff_eq, List.mem_append, List.mem_singleton]
  exact or_congr Iff.rfl ⟨Eq.symm, Eq.symm⟩
set_option maxRecDepth 100000 in
set_option maxHeartbeats 4000000 in
theorem lonce_any (S : List Stp) (v : Value) (t : Int) (w : World) (h : SpR w v S) (hll : S.length ≤ 9223372036854775807) :
    Calls Try.prog 4 #[v, .int .i64 t] w fun e w' => e = .returned (.bool true) ∧ Below w.heap.size w w' := by
  have HS0 := hide h
  obtain ⟨av, cv, rfl, -⟩ := h
  by_cases hl : 100 < S.length
  · have d0 : (100 : Int) < (S.length : Int) := by omega
    go_enter Try.func4, Try.ntmps4
    go_wp2_with fail
    refine (llBegun_any _).mono ?_
    rintro e w1 ⟨rfl, hb1⟩
    go_wp2
    go_ret
    exact ⟨rfl, hb1⟩
  · have d0 : decide ((100 : Int) < (S.length : Int)) = false := by simp; omega
    go_enter Try.func4, Try.ntmps4
    go_wp2_with fail
    refine (llBegun_any _).mono ?_
    rintro e w1 ⟨rfl, hb1⟩
    have HB1 := hide hb1
    clear hb1
    go_wp2_with fail
    refine (ldNew_any _).mono ?_
    rintro e w2 ⟨rfl, hg2, hb2⟩
    have HG2 := hide hg2
    have HB2 := hide hb2
    have HS1 := hide (HS0.out.keep HB1.out)
    obtain ⟨B, hB⟩ : ∃ B, w1.heap.size = B := ⟨_, rfl⟩
    have HBB := hide hB
    rw [hB] at HG2 HB2 ⊢
    obtain ⟨p, hp⟩ : ∃ p, B = p := ⟨_, rfl⟩
    have HPP : Hid (LG B w2 p (.slice none 0 0) []) := hide (by rw [← hp]; exact HG2.out)
    rw [show (Value.pointer (some ⟨B, 0, none⟩)) = .pointer (some ⟨p, 0, none⟩) by rw [hp]]
    clear hg2 hb2 HS0 hB hp HG2
    go_wp2
    go_loopg [6] S.length (fun gh iv wr => ∃ (i : Nat) (L : List En) (va : Value), gh = S.length - i ∧ i ≤ S.length ∧ iv = .int .i64 i ∧ Hid (LG B wr p va L) ∧ Hid (Fw L i) ∧ Hid (Gd L) ∧ Hid (Below B w1 wr))
    case atStart => exact ⟨0, [], _, rfl, Nat.zero_le _, rfl, HPP, hide ⟨Nat.le_refl _, fun x hx => by cases hx⟩, hide (fun x hx => by cases hx), HB2⟩
    case round =>
      clear HPP HB2
      obtain ⟨i, L, va, rfl, hi, rfl, HL, HF, HD, HB⟩ := hrel
      have HLC : Hid (∀ (w' : World) (v' : Value), LC wr w' p va v' → Below B w1 w') := hide (fun w' v' hc => by
        have hs := HB.out.size
        have he := HBB.out
        have k1 := Kx.of_below (X := fun b => b < B) (w := w1) (w' := wr) (by rw [he]; exact HB.out)
        have k2 := hc.k.mono (Y := fun b => b < B) (fun b _ hb => ⟨fun e => by have := HL.out.lo; omega, fun e => by have := (HL.out.o.lt b e.symm).1; omega⟩)
        have := (k1.trans k2).below_of (fun _ hb => by rw [← he]; exact hb)
        rw [he] at this
        exact this)
      by_cases hlt : i < S.length
      · have d1 : decide ((i : Int) < (S.length : Int)) = true := by simp; omega
        obtain ⟨x, hx⟩ : ∃ x, S[i]? = some x := ⟨_, List.getElem?_eq_getElem hlt⟩
        obtain ⟨aP, cP, eP, hP⟩ := HS1.out
        obtain ⟨rfl, rfl⟩ : av = aP ∧ cv = cP := by simpa using eP
        obtain ⟨gP, oP, rfl, qP⟩ := hP (fun e => by rw [e] at hlt; simp at hlt)
        obtain ⟨c0, c1, c2, c3, c4⟩ := qP i _ hx
        have HGP : Hid (gP < w1.heap.size) := hide (World.block_lt_of_cell? _ _ c0)
        have HBw : Hid (Below w1.heap.size w1 wr) := hide (by rw [HBB.out]; exact HB.out)
        have c0 := bsome HBw.out c0
        have c1 := bsome HBw.out c1
        have c2 := bsome HBw.out c2
        have c3 := bsome HBw.out c3
        have c4 := bsome HBw.out c4
        obtain ⟨k, hk8, hk⟩ := kp8 x.d
        have i0 : (0 : Int) ≤ (i : Int) := by omega
        have i1 : (i : Int) < (S.length : Int) := by omega
        have hFl := HF.out.1
        clear qP hP eP hx
        have CB : Hid (∀ X, Below wr.heap.size wr X → Calls Try.prog 9 #[.pointer (some ⟨p, 0, none⟩), .int .i64 x.n, .bool x.s, .int .i64 x.h] X fun r w' => ∃ u, r = .returned u ∧ ∃ v', LG B w' p v' (Ld.born L x.n x.s x.h) ∧ LC wr w' p va v') := hide (fun X hX => (born_any (HL.out.keep hX) x.n x.s x.h (by omega)).mono (fun r w' h => by obtain ⟨h1, v', h2, h3⟩ := h; exact ⟨_, h1, v', h2, h3.after hX⟩))
        have CM : Hid (∀ X, Below wr.heap.size wr X → Calls Try.prog 10 #[.pointer (some ⟨p, 0, none⟩), .int .i64 x.e, .int .i64 x.h] X fun r w' => ∃ u, r = .returned u ∧ ∃ v', LG B w' p v' (Ld.move L x.e x.h) ∧ LC wr w' p va v') := hide (fun X hX => (move_any (HL.out.keep hX) x.e x.h).mono (fun r w' h => ⟨_, h.1, va, h.2.1, h.2.2.after hX⟩))
        have CG : Hid (∀ X, Below wr.heap.size wr X → Calls Try.prog 11 #[.pointer (some ⟨p, 0, none⟩), .int .i64 x.e] X fun r w' => ∃ u, r = .returned u ∧ ∃ v', LG B w' p v' (Ld.gone L x.e) ∧ LC wr w' p va v') := hide (fun X hX => (gone_any (HL.out.keep hX) x.e (HF.out.bd (by omega))).mono (fun r w' h => ⟨_, h.1, va, h.2.1, h.2.2.after hX⟩))
        have HCX : Hid (∀ w' v', LC wr w' p va v' → ∀ o v, wr.cell? ⟨gP, o, none⟩ = some v → gP < B → w'.cell? ⟨gP, o, none⟩ = some v) := hide (fun w' v' hc o v hv hg => hc.k.cell hv ⟨fun e => by have := HL.out.lo; have e' : gP = p := e; omega, fun e => by have := (HL.out.o.lt gP e.symm).1; omega⟩)
        have hgB : gP < B := by rw [← HBB.out]; exact HGP.out
        have kc : Hid (Below wr.heap.size wr wr.drew) := hide (below_drewN (Below.refl _ _) 1)
        by_cases k3 : k < 3
        · clear CM CG c1
          go_upto_if 43 with fail
          go_cut [43] from 22 to 79 (fun v43 wx => v43 = .bool true ∧ wx = wr)
          case first =>
            rcases (show k = 0 ∨ k = 1 ∨ k = 2 by omega) with rfl | rfl | rfl
            · go_wp2
              go_meet
              case rel => exact ⟨rfl, rfl⟩
            · go_wp2
              go_meet
              case rel => exact ⟨rfl, rfl⟩
            · go_wp2
              go_meet
              case rel => exact ⟨rfl, rfl⟩
          case rest =>
            obtain ⟨rfl, hwx⟩ := hcut
            subst wc
            clear k3 hk hk8
            go_wp2
            go_region_held3 (fun w' => w'.cell? ⟨gP, oP + i * 5 + 2, none⟩ = some (.int .i64 x.h) ∧ w'.cell? ⟨gP, oP + i * 5 + 3, none⟩ = some (.int .i64 x.n) ∧ w'.cell? ⟨gP, oP + i * 5 + 4, none⟩ = some (.bool x.s)) ((first | exact ⟨HCX.out _ _ LCN.out _ _ c2 hgB, HCX.out _ _ LCN.out _ _ c3 hgB, HCX.out _ _ LCN.out _ _ c4 hgB⟩ | go_keep)) ((refine step_call_w (by rfl) 9 #[.pointer (some ⟨p, 0, none⟩), .int .i64 x.n, .bool x.s, .int .i64 x.h] ?_ (CB.out _ kc.out) ?_; (focus (go_simp; done)); rintro vA wA ⟨v', hgA, hcA⟩; have LCN := hide hcA; have LGN := hide hgA; clear hgA hcA))
            go_wp2
            go_roundg (S.length - (i + 1))
            case measure => omega
            case rel => exact ⟨i + 1, _, _, rfl, by omega, by go_num, LGN, hide (HF.out.born _ _ _), hide (HD.out.born _ _ _), hide (HLC.out _ _ LCN.out)⟩
        · have b0 : ((k : Int) == 0) = false := beq_eq_false_iff_ne.2 (by omega)
          have b1 : ((k : Int) == 1) = false := beq_eq_false_iff_ne.2 (by omega)
          have b2 : ((k : Int) == 2) = false := beq_eq_false_iff_ne.2 (by omega)
          by_cases k7 : k = 3 ∨ k = 4 ∨ k = 7
          · clear CB CG c3 c4
            go_upto_if 64 with fail
            go_cut [64] from 22 to 79 (fun v64 wx => v64 = .bool true ∧ wx = wr)
            case first =>
              rcases k7 with rfl | rfl | rfl
              · go_wp2
                go_meet
                case rel => exact ⟨rfl, rfl⟩
              · go_wp2
                go_meet
                case rel => exact ⟨rfl, rfl⟩
              · go_wp2
                go_meet
                case rel => exact ⟨rfl, rfl⟩
            case rest =>
              obtain ⟨rfl, hwx⟩ := hcut
              subst wc
              clear k3 hk hk8 k7 b0 b1 b2
              go_wp2
              go_region_held3 (fun w' => w'.cell? ⟨gP, oP + i * 5 + 1, none⟩ = some (.int .i64 x.e) ∧ w'.cell? ⟨gP, oP + i * 5 + 2, none⟩ = some (.int .i64 x.h)) ((first | exact ⟨HCX.out _ _ LCN.out _ _ c1 hgB, HCX.out _ _ LCN.out _ _ c2 hgB⟩ | go_keep)) ((refine step_call_w (by rfl) 10 #[.pointer (some ⟨p, 0, none⟩), .int .i64 x.e, .int .i64 x.h] ?_ (CM.out _ kc.out) ?_; (focus (go_simp; done)); rintro vA wA ⟨v', hgA, hcA⟩; have LCN := hide hcA; have LGN := hide hgA; clear hgA hcA))
              go_wp2
              go_roundg (S.length - (i + 1))
              case measure => omega
              case rel => exact ⟨i + 1, _, _, rfl, by omega, by go_num, LGN, hide (HF.out.move _ _), hide (HD.out.move _ _), hide (HLC.out _ _ LCN.out)⟩
          · have b3 : ((k : Int) == 3) = false := beq_eq_false_iff_ne.2 (by omega)
            have b4 : ((k : Int) == 4) = false := beq_eq_false_iff_ne.2 (by omega)
            have b7 : ((k : Int) == 7) = false := beq_eq_false_iff_ne.2 (by omega)
            clear CB CM c2 c3 c4 k3 k7 hk8
            go_wp2_with fail
            refine (CG.out _ (Below.refl _ _)).mono ?_
            rintro e wA ⟨vA, rfl, v', hgA, hcA⟩
            have LCN := hide hcA
            have LGN := hide hgA
            clear hgA hcA hk b0 b1 b2 b3 b4 b7
            go_wp2
            go_roundg (S.length - (i + 1))
            case measure => omega
            case rel => exact ⟨i + 1, _, _, rfl, by omega, by go_num, LGN, hide (HF.out.gone _), hide (HD.out.gone _), hide (HLC.out _ _ LCN.out)⟩
      · obtain rfl : i = S.length := by omega
        have d1 : decide ((S.length : Int) < (S.length : Int)) = false := by simp
        have hFl : L.length ≤ 100 := Nat.le_trans HF.out.1 (by omega)
        have hNB : B ≤ wr.heap.size := by have := HB.out.size; rw [HBB.out] at this; exact this
        have CA := hide (all_any HL.out (by omega))
        clear HLC HF
        go_wp2_with fail
        refine CA.out.mono ?_
        rintro e w3 ⟨ua, rfl, ho, hb⟩
        obtain ⟨aa, ca, rfl⟩ := own_slicei ho
        have HL3 := hide (HL.out.keep hb)
        have HO3 := hide ho
        have HPV : Hid (p < wr.heap.size ∧ ∀ g, va.ownBlock = some g → g < wr.heap.size) := hide ⟨HL.out.plt, fun g hg => (HL.out.o.lt g hg).2⟩
        have HB3 : Hid (Below B w1 w3) := hide (HB.out.trans (hb.mono hNB))
        obtain ⟨N, hN⟩ : ∃ N, wr.heap.size = N := ⟨_, rfl⟩
        rw [hN] at HO3 HPV
        clear ho hb hN hNB HL HB CA
        go_wp2
        go_loopg [8] L.length (fun gh ev wx => ∃ (e : Nat), gh = L.length - e ∧ e ≤ L.length ∧ ev = .int .i64 e ∧ Hid (LG B wx p va L) ∧ Hid (wx.ownsRow N 36 4 (.slice aa L.length ca) L.length (ecl L)) ∧ Hid (Below B w1 wx))
        case atStart => exact ⟨0, rfl, Nat.zero_le _, rfl, HL3, HO3, HB3⟩
        case round =>
          clear HL3 HO3 HB3
          obtain ⟨e, rfl, he, rfl, HL, HO, HB⟩ := hrel
          by_cases hel : e < L.length
          · have de : decide ((e : Int) < (L.length : Int)) = true := by simp; omega
            obtain ⟨x, hx⟩ : ∃ x, L[e]? = some x := ⟨_, List.getElem?_eq_getElem hel⟩
            have HX := hide hx
            have CE := hide (end_any HL.out (e : Int))
            rw [(Ld.at_nat hx).1, (Ld.at_nat hx).2] at CE
            obtain ⟨q1, q2, q3⟩ := HD.out x (List.mem_of_getElem? hx)
            obtain ⟨db, hdb⟩ : ∃ b, (x.h == -2) = b := ⟨_, rfl⟩
            have hdd : decide (0 < x.d) = db := by rw [← hdb, Bool.eq_iff_iff, decide_eq_true_eq, q2]; simp
            have dbb : (db != db) = false := by cases db <;> rfl
            have dlt : decide (x.h < -2) = false := decide_eq_false (by omega)
            have HQ := hide (And.intro q1 q2)
            have e0 : (0 : Int) ≤ (e : Int) := by omega
            have e1 : (e : Int) < (L.length : Int) := by omega
            have HDB := hide hdb
            clear hx q1 q2 q3
            go_wp2_with fail
            refine CE.out.mono ?_
            rintro r w4 ⟨rfl, hb4⟩
            have HO4 := hide (own_keepe HO.out (fun g hg => hb4.block g (HO.out.lt g hg).2))
            obtain ⟨ga, cga, hv, hgN, -⟩ := HO4.out.form (by omega)
            obtain ⟨rfl, rfl⟩ : aa = some ⟨ga, 0, none⟩ ∧ ca = cga := by simpa using hv
            obtain ⟨a1, a2, a3, a4⟩ := ecl_at L e x HX.out
            have g1 : w4.cell? ⟨ga, e * 4, none⟩ = some (.int .i64 x.c) := by rw [HO4.out.cellAt _ (by omega)]; exact a1
            have g2 : w4.cell? ⟨ga, e * 4 + 1, none⟩ = some (.bool x.s) := by rw [HO4.out.cellAt _ (by omega)]; exact a2
            have g3 : w4.cell? ⟨ga, e * 4 + 2, none⟩ = some (.int .i64 x.h) := by rw [HO4.out.cellAt _ (by omega)]; exact a3
            have g4 : w4.cell? ⟨ga, e * 4 + 3, none⟩ = some (.int .i64 x.d) := by rw [HO4.out.cellAt _ (by omega)]; exact a4
            have hga : ga < w4.heap.size := World.block_lt_of_cell? _ _ g1
            have hgn : ¬ ga = w4.heap.size := by omega
            have heq := En.neq_same x
            have HB4 := hide hb4
            clear a1 a2 a3 a4 hv hb4 CE
            go_wp2
            go_quiet (fail)
            rename_i nq
            obtain ⟨W2, hW2⟩ : ∃ W2, ((w4.alloc (.cells #[.int .i64 x.c, .bool x.s, .int .i64 x.h, .int .i64 x.d] 36)).drewN nq).alloc (.cells #[.int .i64 (-2), .int .i64 (-1), .int .i64 t, .int .i64 x.h] 3) = W2 := ⟨_, rfl⟩
            have hbW : Below w4.heap.size w4 W2 := by
              rw [← hW2]
              exact (below_drewN ((Below.refl _ _).alloc (Nat.le_refl _) _) nq).alloc (by simp) _
            have hcx : W2.cell? ⟨w4.heap.size, 2, none⟩ = some (.int .i64 x.h) := by rw [← hW2]; simp [go_sem]
            have HCH : Hid (∀ (k : Nat) hm, [-2, -1, t, x.h][k]? = some hm → W2.cell? ⟨w4.heap.size + 1, k, none⟩ = some (.int .i64 hm)) := hide (by
              intro k hm hk
              rw [← hW2]
              match k, hk with
              | 0, hk => simp at hk; subst hk; simp [go_sem]
              | 1, hk => simp at hk; subst hk; simp [go_sem]
              | 2, hk => simp at hk; subst hk; simp [go_sem]
              | 3, hk => simp at hk; subst hk; simp [go_sem])
            have HBW := hide (btrans HB4.out hbW)
            have HCX := hide hcx
            clear g1 g2 g3 g4 hga hgn heq HO4 hbW hcx HB4
            go_wp2
            clear hW2
            generalize w4.heap.size + 1 = bh at *
            generalize w4.heap.size = bx at *
            have HLW := hide (HL.out.keep HBW.out)
            have HOW := hide (own_keepe HO.out (fun g hg => HBW.out.block g (HO.out.lt g hg).2))
            have hNB : B ≤ wr.heap.size := by have := HB.out.size; rw [HBB.out] at this; exact this
            have HBX : Hid (Below B w1 W2) := hide (HB.out.trans (HBW.out.mono hNB))
            clear HL HO HB HBW hNB
            go_loopg [12] 4 (fun gh kv wx => ∃ (k : Nat), gh = 4 - k ∧ k ≤ 4 ∧ kv = .int .i64 k ∧ Hid (Below W2.heap.size W2 wx))
            case atStart => exact ⟨0, rfl, Nat.zero_le _, rfl, hide (Below.refl _ _)⟩
            case round =>
              obtain ⟨k, rfl, hk4, rfl, HB⟩ := hrel
              by_cases hkl : k < 4
              · have dk : decide ((k : Int) < 4) = true := decide_eq_true (by omega)
                obtain ⟨hm, hhm⟩ : ∃ hm, [-2, -1, t, x.h][k]? = some hm := ⟨_, List.getElem?_eq_getElem (by simpa using hkl)⟩
                have ch := bsome HB.out (HCH.out k hm hhm)
                have k0 : (0 : Int) ≤ (k : Int) := by omega
                have k1 : (k : Int) < 4 := by omega
                have HLr := hide (HLW.out.keep HB.out)
                have CO := hide (of_any HLr.out hm (by omega))
                have hol : (Ld.of hm 0 L).length ≤ 100 := Nat.le_trans (Ld.of_len _ _ _) (by omega)
                have HMF := hide (Ld.of_at HX.out hm)
                generalize Ld.of hm 0 L = M at *
                clear hhm
                go_wp2_with fail
                refine CO.out.mono ?_
                rintro r w5 ⟨u5, rfl, hi5, hb5⟩
                have HB5 := hide (btrans HB.out hb5)
                have HLr5 := hide (HLr.out.keep hb5)
                have ch5 := bsome hb5 ch
                obtain ⟨a5, c5, rfl, hi5⟩ := hi5
                have HI5 := hide hi5
                clear hi5 hb5 CO ch HLr
                go_wp2
                go_loopg [14, 15] M.length (fun gh fv iv wx => ∃ (i : Nat), gh = M.length - i ∧ i ≤ M.length ∧ iv = .int .i64 i ∧ fv = .bool (decide ((e : Int) ∈ M.take i)) ∧ wx = w5)
                case atStart => exact ⟨0, rfl, Nat.zero_le _, rfl, by simp, rfl⟩
                case round =>
                  obtain ⟨i, rfl, him, rfl, rfl, hwx⟩ := hrel
                  subst wr
                  by_cases hil : i < M.length
                  · have di : decide ((i : Int) < (M.length : Int)) = true := decide_eq_true (by omega)
                    obtain ⟨y, hy⟩ : ∃ y, M[i]? = some y := ⟨_, List.getElem?_eq_getElem hil⟩
                    obtain ⟨g5, o5, rfl, hc5⟩ := HI5.out (List.ne_nil_of_mem (List.mem_of_getElem? hy))
                    have cy := hc5 i y hy
                    have HT := hide (mem_take_succ (e := (e : Int)) hy)
                    have i0 : (0 : Int) ≤ (i : Int) := by omega
                    have i1 : (i : Int) < (M.length : Int) := by omega
                    obtain ⟨fb, hfb⟩ : ∃ fb, decide ((e : Int) ∈ M.take i) = fb := ⟨_, rfl⟩
                    rw [hfb] at HT ⊢
                    clear hc5 hy hfb
                    cases fb with
                    | true =>
                      go_wp2
                      go_roundg (M.length - (i + 1))
                      case measure => omega
                      case rel => exact ⟨i + 1, rfl, by omega, by go_num, by rw [HT.out]; rfl, rfl⟩
                    | false =>
                      go_wp2
                      go_roundg (M.length - (i + 1))
                      case measure => omega
                      case rel => exact ⟨i + 1, rfl, by omega, by go_num, by rw [HT.out]; rfl, rfl⟩
                  · obtain rfl : i = M.length := by omega
                    have di : decide ((M.length : Int) < (M.length : Int)) = false := by simp
                    obtain ⟨fb, hfb⟩ : ∃ fb, decide ((e : Int) ∈ M.take M.length) = fb := ⟨_, rfl⟩
                    rw [hfb]
                    have hxf : (x.h == hm) = fb := by
                      rw [← hfb, List.take_length, Bool.eq_iff_iff, beq_iff_eq, decide_eq_true_eq]
                      exact HMF.out.symm
                    have dff : (fb != fb) = false := by cases fb <;> rfl
                    have cx := bsome HB5.out HCX.out
                    clear hfb HMF HI5
                    go_wp2
                    go_quiet (fail)
                    have HB6 := hide (HB5.out.trans (below_drewN (Below.refl _ _) nq : Below W2.heap.size w5 (w5.drewN nq)))
                    have HL6 := hide (HLr5.out.keep (below_drewN (Below.refl _ _) nq))
                    have ch6 : (w5.drewN nq).cell? ⟨bh, k, none⟩ = some (.int .i64 hm) := ch5
                    obtain ⟨W5, hW5⟩ : ∃ W5, w5.drewN nq = W5 := ⟨_, rfl⟩
                    rw [hW5] at HB6 HL6 ch6 ⊢
                    clear hW5 ch5 cx HB5 HLr5
                    by_cases hm0 : 0 ≤ hm
                    · have dm : decide (0 ≤ hm) = true := decide_eq_true hm0
                      have CU := hide (use_any HL6.out (e : Int) hm 3)
                      rw [Ld.use_nat HX.out] at CU
                      have hwh := Ld.wh3 x hm0
                      rw [hxf] at hwh
                      generalize Ld.wh x hm 3 = U at *
                      clear hm0 hxf
                      go_wp2_with fail
                      refine CU.out.mono ?_
                      rintro r w7 ⟨rfl, hb7⟩
                      have HB7 := hide (btrans HB6.out hb7)
                      clear hb7 CU
                      go_wp2
                      go_roundg (4 - (k + 1))
                      case measure => omega
                      case rel => exact ⟨k + 1, rfl, by omega, by go_num, HB7⟩
                    · have dm : decide (0 ≤ hm) = false := decide_eq_false hm0
                      clear hm0 hxf
                      go_wp2
                      go_roundg (4 - (k + 1))
                      case measure => omega
                      case rel => exact ⟨k + 1, rfl, by omega, by go_num, HB6⟩
              · obtain rfl : k = 4 := by omega
                have cx := bsome HB.out HCX.out
                have HLr := hide (HLW.out.keep HB.out)
                have HOr := hide (own_keepe HOW.out (fun g hg => HB.out.block g (HOW.out.lt g hg).2))
                have hNB : B ≤ W2.heap.size := by have := HBX.out.size; rw [HBB.out] at this; exact this
                have HBr : Hid (Below B w1 wr) := hide (HBX.out.trans (HB.out.mono hNB))
                clear HLW HOW HBX HB hNB
                cases db with
                | false =>
                  go_wp2
                  go_roundg (L.length - (e + 1))
                  case measure => omega
                  case rel => exact ⟨e + 1, rfl, by omega, by go_num, HLr, HOr, HBr⟩
                | true =>
                  have hx2 : x.h = -2 := by have := HDB.out; simpa using this
                  have CU := hide (use_any HLr.out (e : Int) t 2)
                  rw [Ld.use_nat HX.out, show Ld.wh x t 2 = 3 by unfold Ld.wh; rw [if_pos hx2]; rfl] at CU
                  have hmy : Ld.may L (e : Int) 0 = false := by unfold Ld.may; rw [(Ld.at_nat HX.out).1, hx2]; simp
                  have HMY := hide hmy
                  clear hx2 hmy
                  go_wp2_with fail
                  refine CU.out.mono ?_
                  rintro r w7 ⟨rfl, hb7⟩
                  have CM := hide (move_any (HLr.out.keep hb7) (e : Int) 0)
                  rw [HMY.out] at CM
                  have HB7 := hide hb7
                  clear hb7 CU
                  go_wp2_with fail
                  refine CM.out.mono ?_
                  rintro r w8 ⟨rfl, hg8, hc8⟩
                  have HG8 : Hid (LG B w8 p va L) := hide (by have h := hg8; unfold Ld.move at h; rw [HMY.out] at h; exact h)
                  have hcc := hc8.after HB7.out
                  have HO8 := hide (own_keepe HOr.out (fun g hg => hcc.k.block g (HOr.out.lt g hg).2 ⟨fun e' => by have := (HOr.out.lt g hg).1; have := HPV.out.1; omega, fun e' => by have := (HOr.out.lt g hg).1; have := HPV.out.2 g e'.symm; omega⟩))
                  have HB8 : Hid (Below B w1 w8) := hide (by
                    have he := HBB.out
                    have k1 := Kx.of_below (X := fun b => b < B) (w := w1) (w' := wr) (by rw [he]; exact HBr.out)
                    have k2 := hcc.k.mono (Y := fun b => b < B) (fun b _ hb => ⟨fun e => by have := HLr.out.lo; omega, fun e => by have := (HLr.out.o.lt b e.symm).1; omega⟩)
                    have := (k1.trans k2).below_of (fun _ hb => by rw [← he]; exact hb)
                    rw [he] at this
                    exact this)
                  clear hg8 hc8 hcc CM HB7 HLr HOr HBr
                  go_wp2
                  go_roundg (L.length - (e + 1))
                  case measure => omega
                  case rel => exact ⟨e + 1, rfl, by omega, by go_num, HG8, HO8, HB8⟩
          · obtain rfl : e = L.length := by omega
            have de : decide ((L.length : Int) < (L.length : Int)) = false := by simp
            have hbb := HBB.out
            have HBF : Hid (Below w1.heap.size w1 wr) := hide (by rw [hbb]; exact HB.out)
            have HBG : Hid (Below w.heap.size w wr) := hide (HB1.out.trans (HBF.out.mono HB1.out.size))
            clear hbb HBF
            go_wp2
            go_ret
            exact ⟨rfl, HBG.out⟩
end Go.Proofs.Ytlhjbgdmjebaeaa

import Derived.Test.YtibhbbgpeckkfaaRnkAb
import Derived.Test.YtibhbbgpeckkfaaRnkT
/- Package ranks: newGraph, walked. -/
namespace Go.Proofs.Ytibhbbgpeckkfaa
open Go.RowKit

theorem compactTo_up (d : Array (Int × Int)) (hs : ∀ i j, i < j → j < d.size → elb d[j]! d[i]! = false) (m : Nat) (hm : m ≤ d.size) :
    (Lib.compactUpTo d m).Pairwise (fun x y => elb x y = true) ∧ ∀ z, z ∈ Lib.compactUpTo d m ↔ ∃ j, j < m ∧ d[j]! = z := by
  induction m with
  | zero => exact ⟨by simp [Lib.compactUpTo, ], by simp [Lib.compactUpTo]⟩
  | succ m ih =>
    obtain ⟨hu, hz⟩ := ih (by omega)
    rw [Lib.compactUpTo_succ]
    by_cases hk : Lib.keeps d m = true
    · rw [if_pos hk]
      have hk' : m = 0 ∨ d[m]! ≠ d[m - 1]! := by simpa [Lib.keeps] using hk
      refine ⟨?_, ?_⟩
      · refine List.pairwise_append.2 ⟨hu, by simp, ?_⟩
        intro x hx y hy
        obtain ⟨j, hj, rfl⟩ := (hz x).1 hx
        obtain rfl : y = d[m]! := by simpa using hy
        cases hc : elb d[j]! d[m]! with
        | true => rfl
        | false =>
          have e := elb_eq hc (hs j m hj (by omega))
          have hne : d[m]! ≠ d[m - 1]! := by
            rcases hk' with h | h
            · omega
            · exact h
          by_cases hjm : j = m - 1
          · subst hjm
            exact absurd e.symm hne
          · have h1 := hs j (m - 1) (by omega) (by omega)
            have h2 := hs (m - 1) m (by omega) (by omega)
            rw [e] at h1
            exact absurd (elb_eq h2 h1) hne
      · intro z
        simp only [List.mem_append, List.mem_singleton, hz]
        constructor
        · rintro (⟨j, h1, h2⟩ | h)
          · exact ⟨j, by omega, h2⟩
          · exact ⟨m, by omega, h.symm⟩
        · rintro ⟨j, h1, h2⟩
          by_cases e : j = m
          · subst e; exact .inr h2.symm
          · exact .inl ⟨j, by omega, h2⟩
    · rw [if_neg hk, List.append_nil]
      have hk' : ¬ (m = 0 ∨ d[m]! ≠ d[m - 1]!) := by simpa [Lib.keeps] using hk
      have h0 : m ≠ 0 := fun h => hk' (.inl h)
      have he : d[m]! = d[m - 1]! := by
        by_cases e : d[m]! = d[m - 1]!
        · exact e
        · exact absurd (.inr e) hk'
      refine ⟨hu, fun z => ?_⟩
      rw [hz]
      constructor
      · rintro ⟨j, h1, h2⟩; exact ⟨j, by omega, h2⟩
      · rintro ⟨j, h1, h2⟩
        by_cases e : j = m
        · subst e; exact ⟨j - 1, by omega, he.symm.trans h2⟩
        · exact ⟨j, by omega, h2⟩

theorem compact_up (F : List (Int × Int)) (hs : ∀ i j, i < j → j < F.length → elb (F[j]?.getD (0, 0)) (F[i]?.getD (0, 0)) = false) : (Lib.compact F).Pairwise (fun x y => elb x y = true) ∧ ∀ z, z ∈ Lib.compact F ↔ z ∈ F := by
  have h := compactTo_up F.toArray (fun i j hij hj => by
    have hj' : j < F.length := by simpa using hj
    rw [arr_get F i (by omega), arr_get F j hj']
    exact hs i j hij hj') F.length (by simp)
  refine ⟨h.1, fun z => ?_⟩
  show z ∈ Lib.compactUpTo F.toArray F.length ↔ _
  rw [h.2 z]
  constructor
  · rintro ⟨j, hj, rfl⟩
    rw [arr_get F j hj, List.getElem?_eq_getElem hj]
    exact List.getElem_mem hj
  · intro hz
    obtain ⟨j, hj, rfl⟩ := List.getElem_of_mem hz
    exact ⟨j, hj, by rw [arr_get F j hj, List.getElem?_eq_getElem hj]; rfl⟩
theorem compact_le (F : List (Int × Int)) : (Lib.compact F).length ≤ F.length := by
  unfold Lib.compact Lib.compactUpTo
  rw [List.length_map]
  exact Nat.le_trans (List.length_filter_le _ _) (by simp)
theorem compact_any (g cap : Nat) (F : List (Int × Int)) (w : World) (hl : F.length ≤ 20000) (hn : F.length ≤ cap) (hS : Shape w g cap) (hF : FAt w g 0 F) :
    Calls Try.prog 26 #[.slice (some ⟨g, 0, none⟩) F.length cap] w fun e w' => e = .returned (.slice (some ⟨g, 0, none⟩) (Lib.compact F).length cap) ∧ FAt w' g 0 (Lib.compact F) ∧ Kx (fun b => b ≠ g) w w' := by
  by_cases h2 : F.length < 2
  · rw [compact_short F h2]
    refine (compact_few _ _ _ w h2).mono ?_
    rintro e w1 ⟨rfl, rfl⟩
    exact ⟨rfl, hF, Kx.refl _ _⟩
  · refine (compact_some g cap F w hl (by omega) hn hS hF).mono ?_
    rintro e w1 ⟨rfl, -, hF1, hk1⟩
    exact ⟨rfl, hF1, hk1⟩
theorem up2_back (L : List (Int × Int)) (h : ∀ e ∈ L, 0 ≤ e.1 ∧ 0 ≤ e.2) : up2 (L.map fun e => (e.1.toNat, e.2.toNat)) = L := by
  unfold up2
  rw [List.map_map]
  conv => rhs; rw [← List.map_id L]
  refine List.map_congr_left (fun e he => ?_)
  have := h e he
  show (((e.1.toNat : Nat) : Int), ((e.2.toNat : Nat) : Int)) = e
  rw [Int.toNat_of_nonneg this.1, Int.toNat_of_nonneg this.2]
/-- Edges sorted, each once. -/
theorem edges_of {E : Rk.Eg} {F : List (Int × Int)} (hp : F.Perm (up2 E)) (hs : ∀ i j, i < j → j < F.length → elb (F[j]?.getD (0, 0)) (F[i]?.getD (0, 0)) = false) : ∃ C : Rk.Eg, up2 C = Lib.compact F ∧ C.Pairwise Rk.elt ∧ (∀ e, e ∈ C ↔ e ∈ E) ∧ C.length ≤ E.length := by
  obtain ⟨h1, h2⟩ := compact_up F hs
  have h3 : ∀ z, z ∈ Lib.compact F ↔ z ∈ up2 E := fun z => (h2 z).trans hp.mem_iff
  have h4 : up2 ((Lib.compact F).map fun e => (e.1.toNat, e.2.toNat)) = Lib.compact F := up2_back _ (fun e he => by
    obtain ⟨x, -, rfl⟩ := List.mem_map.1 ((h3 e).1 he)
    exact ⟨by simp, by simp⟩)
  have hmem : ∀ (D : Rk.Eg) (e : Nat × Nat), e ∈ D ↔ ((e.1 : Int), (e.2 : Int)) ∈ up2 D := fun D e => by
    unfold up2
    rw [List.mem_map]
    constructor
    · intro h; exact ⟨e, h, rfl⟩
    · rintro ⟨x, hx, hxe⟩
      simp only [Prod.mk.injEq] at hxe
      have : x = e := Prod.ext (by omega) (by omega)
      exact this ▸ hx
  refine ⟨_, h4, ?_, fun e => ?_, ?_⟩
  · have h5 := h4 ▸ h1
    unfold up2 at h5
    rw [List.pairwise_map] at h5
    refine h5.imp ?_
    intro x y hxy
    have := (elb_iff _ _).1 hxy
    simp only at this
    unfold Rk.elt
    omega
  · rw [hmem, h4, h3, ← hmem]
  · rw [List.length_map]
    have := hp.length_eq
    rw [up2_len] at this
    have := compact_le F
    omega
theorem fat_at {w : World} {g : Nat} {C : Rk.Eg} (h : FAt w g 0 (up2 C)) {k : Nat} {e : Nat × Nat} (he : C[k]? = some e) : w.cell? ⟨g, k * 2, none⟩ = some (.int .i64 (e.1 : Int)) ∧ w.cell? ⟨g, k * 2 + 1, none⟩ = some (.int .i64 (e.2 : Int)) := by
  have hk := (List.getElem?_eq_some_iff.1 he).1
  obtain ⟨h1, h2⟩ := h k (by rw [up2_len]; exact hk)
  rw [up2_get he, Nat.zero_add] at h1 h2
  exact ⟨h1, h2⟩
theorem row_set {A : List (List Nat)} {a : Nat} (ha : a < A.length) (x : List Nat) (i : Nat) : Rk.row (A.set a x) i = if a = i then x else Rk.row A i := by
  unfold Rk.row
  rw [List.getD_eq_getElem?_getD, List.getD_eq_getElem?_getD, List.getElem?_set]
  by_cases h : a = i
  · rw [if_pos h, if_pos h, if_pos (h ▸ ha)]
    rfl
  · rw [if_neg h, if_neg h]
theorem rw_len (C : Rk.Eg) (i : Nat) : (Rk.rw' C i).length ≤ C.length := by
  unfold Rk.rw'
  rw [List.length_map]
  exact List.length_filter_le _ _
theorem row_rep (N i : Nat) : Rk.row (List.replicate N []) i = [] := by
  unfold Rk.row
  rw [List.getD_eq_getElem?_getD, List.getElem?_replicate]
  split <;> rfl

set_option maxRecDepth 100000 in
set_option maxHeartbeats 4000000 in
theorem newGraph_some (N : Nat) (E : Rk.Eg) (g0 o0 c0 : Nat) (w : World) (h : ∀ (k : Nat) x, (up2 E)[k]? = some x → w.cell? ⟨g0, o0 + k * 2, none⟩ = some (.int .i64 x.1) ∧ w.cell? ⟨g0, o0 + k * 2 + 1, none⟩ = some (.int .i64 x.2)) (hE : Rk.In N E) (hn : N ≤ 300) (hl : E.length ≤ 20000) (h0 : 0 < E.length) :
    Calls Try.prog 17 #[.int .i64 N, .slice (some ⟨g0, o0, none⟩) E.length c0] w fun e w' => ∃ gv A, e = .returned gv ∧ Rk.Adj N E A ∧ GR w' gv A ∧ Below w.heap.size w w' := by
  obtain ⟨i0, hi, hz0, hz1, hz2⟩ := info_parts Try.info3
  obtain ⟨Z, hZ, mk⟩ := make_graph N hn
  have CL := hide (clone_some (up2 E) g0 o0 c0 w h (by rw [up2_len]; exact hl) (by rw [up2_len]; exact h0))
  rw [up2_len] at CL
  have HZ := hide hZ
  have HE := hide hE
  clear h hZ hE
  go_enter Try.func17, Try.ntmps17
  go_wp2_with fail
  refine CL.out.mono ?_
  rintro e w1 ⟨v1, rfl, hown1, hb1⟩
  obtain ⟨g, cap, rfl, hgB, hg1, hcap, hm, hS1, hF1⟩ := own_shape (F := up2 E) (by rw [up2_len]; exact hown1) (by rw [up2_len]; exact h0)
  have CS := hide (sort_some w.heap.size g cap (up2 E) w1 (by rw [up2_len]; exact hl) hgB hg1 hcap hm hS1 hF1)
  rw [up2_len] at CS
  have HB1 := hide hb1
  clear CL hown1 hb1 hS1 hF1
  rw [up2_len] at *
  go_wp2_with fail
  refine CS.out.mono ?_
  rintro e w2 ⟨rfl, F, hp, hs, hown2, hb2⟩
  obtain ⟨C, hC1, hC2, hC3, hC4⟩ := edges_of hp hs
  have hFl : F.length = E.length := by have := hp.length_eq; rw [up2_len] at this; exact this
  obtain ⟨g', cap', hv', -, hg2, -, -, hS2, hF2⟩ := own_shape (F := F) (by rw [hFl]; rw [hFl] at hown2; exact hown2) (by rw [hFl]; exact h0)
  rw [hFl] at hv'
  simp only [Value.slice.injEq, Option.some.injEq, Addr.mk.injEq] at hv'
  obtain ⟨⟨rfl, -, -⟩, -, rfl⟩ := hv'
  have HS2 := hide hS2
  have HF2 := hide hF2
  have HB2 := hide (HB1.out.trans hb2)
  have HC1 := hide hC1
  have HC2 := hide hC2
  have HC3 := hide hC3
  have HFl := hide hFl
  have hsz2 : w.heap.size ≤ w2.heap.size := by have := HB2.out.size; omega
  clear CS hown2 hb2 hp hs hS2 hF2 hC1 hC2 hC3 HB1 hFl
  have HW3 : Hid (Below w2.heap.size w2 (w2.alloc (.cells Z 27))) := hide ((Below.refl _ _).alloc (Nat.le_refl _) _)
  have HS3 : Hid (Shape (w2.alloc (.cells Z 27)) g cap) := hide (by
    obtain ⟨cur, q1, q2⟩ := HS2.out
    exact ⟨cur, (HW3.out.block g hg2).trans q1, q2⟩)
  have CC := hide (compact_any g cap F (w2.alloc (.cells Z 27)) (by rw [HFl.out]; exact hl) (by rw [HFl.out]; exact hcap) HS3.out (HF2.out.below HW3.out hg2))
  rw [HFl.out, ← HC1.out, up2_len] at CC
  have HGX := hide (GX.start w2 Z N HZ.out)
  clear HS2 HF2 HS3
  go_wp2_with fail
  refine CC.out.mono ?_
  rintro e w5 ⟨rfl, hF5, hk5⟩
  have HF5 := hide hF5
  have HG5 := hide (HGX.out.keepX hk5 (fun b hb => by show b ≠ g; omega))
  have HB5 : Hid (Kx (fun b => b < w.heap.size) w w5) := hide (((Kx.of_below HB2.out).trans (Kx.of_below HW3.out)).trans (hk5.mono (fun b _ hb => by show b ≠ g; omega)))
  clear hF5 hk5 CC HGX HZ HB2 HW3 mk
  generalize hgb : w2.heap.size = gb at *
  clear hgb
  go_wp2
  go_loopw [18] (fun iv wr => ∃ (k : Nat) (A : List (List Nat)) (V : List Value), k ≤ C.length ∧ iv = .int .i64 k ∧ A.length = N ∧ Hid (GX (gb + 1) gb wr A V) ∧ Hid (∀ i, Rk.row A i = if i < N then Rk.rw' (C.take k) i else []) ∧ Hid (Kx (fun b => b < gb) w5 wr)) (fun iv _ => C.length - (intOf iv).toNat)
  case atStart => exact ⟨0, List.replicate N [], _, Nat.zero_le _, rfl, by simp, HG5, hide (fun i => by rw [row_rep]; split <;> rfl), hide (Kx.refl _ _)⟩
  case round =>
    obtain ⟨k, A, V, hk, rfl, hAl, HG, HR, HK⟩ := hrel
    by_cases hlt : k < C.length
    · have d1 : decide ((k : Int) < (C.length : Int)) = true := by simp; omega
      obtain ⟨e, he⟩ : ∃ e, C[k]? = some e := ⟨_, List.getElem?_eq_getElem hlt⟩
      obtain ⟨ce1, ce2⟩ := fat_at HF5.out he
      have c1 := HK.out.cell ce1 (by show g < gb; omega)
      have c2 := HK.out.cell ce2 (by show g < gb; omega)
      have heN : e.1 < N := (HE.out e ((HC3.out e).1 (List.mem_of_getElem? he))).1
      have HCk : Hid (C.take (k + 1) = C.take k ++ [e]) := hide (by rw [List.take_add_one, he]; rfl)
      have hAi : A[e.1]? = some (Rk.row A e.1) := Rk.row_get (by omega)
      have hVi : V[e.1]? = some (V[e.1]'(by rw [HG.out.len]; omega)) := List.getElem?_eq_getElem _
      obtain ⟨v, hv⟩ : ∃ v, V[e.1]? = some v := ⟨_, hVi⟩
      have ho := HG.out.own e.1 v _ hv hAi
      have cg := HG.out.cell e.1 v hv
      have fg := HG.out.thaw e.1
      obtain ⟨av, cv, rfl⟩ := own_slice ho
      have HO := hide ho
      have HV := hide hv
      have hrowl : (Rk.row A e.1).length ≤ 20000 := by
        rw [HR.out e.1, if_pos heN]
        have h1 := rw_len (C.take k) e.1
        rw [List.length_take] at h1
        omega
      clear ho hv hVi ce1 ce2 he
      obtain ⟨a, b⟩ := e
      simp only at c1 c2 heN hAi cg fg hrowl HO HV HCk
      have hsz := HG.out.sz
      have p0 : (0 : Int) ≤ (a : Int) := by omega
      have p1 : (a : Int) < (N : Int) := by omega
      have k0 : (0 : Int) ≤ (k : Int) := by omega
      have k1 : (k : Int) < (C.length : Int) := by omega
      have hgl : gb < wr.heap.size := by omega
      obtain ⟨r, hr⟩ : ∃ r, r = Rk.row A a := ⟨_, rfl⟩
      rw [← hr] at hAi cg hrowl HO HV
      have HRr := hide hr
      have HAi := hide hAi
      clear hr hAi
      have hbw : Below wr.heap.size wr ((wr.alloc (.cells #[.int .i64 (a : Int), .int .i64 (b : Int)] 30)).alloc (.cells #[.int .i64 (b : Int)] 3)).drew := below_drewN (((Below.refl _ _).alloc (Nat.le_refl _) _).alloc (by simp) _) 1
      have HGW := hide (HG.out.keep hbw)
      have HBW := hide hbw
      have hws : ((wr.alloc (.cells #[.int .i64 (a : Int), .int .i64 (b : Int)] 30)).alloc (.cells #[.int .i64 (b : Int)] 3)).drew.heap.size = wr.heap.size + 1 + 1 := by simp [World.drew]
      have hne : some gb ≠ (Value.slice av r.length cv).ownBlock := fun e => by have := (HO.out.lt gb e.symm).1; omega
      have HNE := hide hne
      have cw : ((wr.alloc (.cells #[.int .i64 (a : Int), .int .i64 (b : Int)] 30)).alloc (.cells #[.int .i64 (b : Int)] 3)).drew.cell? ⟨gb, a, none⟩ = some (.slice av r.length cv) := bsome HBW.out cg
      have HOW := hide (HGW.out.own a _ r HV.out HAi.out)
      have HCN : Hid (∀ j u, [Value.int .i64 (b : Int)][j]? = some u → ((wr.alloc (.cells #[.int .i64 (a : Int), .int .i64 (b : Int)] 30)).alloc (.cells #[.int .i64 (b : Int)] 3)).drew.cell? ((⟨wr.heap.size + 1, 0, none⟩ : Addr).add j) = some u) := hide (fun j u hu => by
        match j, hu with
        | 0, hu => simp at hu; subst hu; simp [go_sem, Addr.add])
      have HNE2 : Hid (some wr.heap.size ≠ (Value.slice av r.length cv).ownBlock) := hide (fun e => by have := (HO.out.lt wr.heap.size e.symm).2; omega)
      have HEC : Hid (((wr.alloc (.cells #[.int .i64 (a : Int), .int .i64 (b : Int)] 30)).alloc (.cells #[.int .i64 (b : Int)] 3)).drew.cell? ⟨wr.heap.size, 0, none⟩ = some (.int .i64 (a : Int)) ∧ ((wr.alloc (.cells #[.int .i64 (a : Int), .int .i64 (b : Int)] 30)).alloc (.cells #[.int .i64 (b : Int)] 3)).drew.cell? ⟨wr.heap.size, 1, none⟩ = some (.int .i64 (b : Int))) := hide ⟨by simp [go_sem], by simp [go_sem]⟩
      have HFIN : Hid (∀ (gn cap2 : Nat) (w7 : World), w7.ownsRow (gb + 1) 3 1 (.slice (some ⟨gn, 0, none⟩) (r.length + 1) cap2) (r.length + 1) (ints (up r) ++ [.int .i64 (b : Int)]) → (((wr.alloc (.cells #[.int .i64 (a : Int), .int .i64 (b : Int)] 30)).alloc (.cells #[.int .i64 (b : Int)] 3)).drew).grownBy w7 (Value.slice av r.length cv).ownBlock → ((Value.slice av r.length cv).ownBlock = some gn ∨ gn = (((wr.alloc (.cells #[.int .i64 (a : Int), .int .i64 (b : Int)] 30)).alloc (.cells #[.int .i64 (b : Int)] 3)).drew).heap.size) → GX (gb + 1) gb (w7.setCell ⟨gb, a, none⟩ (.slice (some ⟨gn, 0, none⟩) (r.length + 1) cap2)) (A.set a (r ++ [b])) (V.set a (.slice (some ⟨gn, 0, none⟩) (r.length + 1) cap2)) ∧ Kx (fun b => b < gb) w5 (w7.setCell ⟨gb, a, none⟩ (.slice (some ⟨gn, 0, none⟩) (r.length + 1) cap2))) := hide (fun gn cap2 w7 hown hgrow hat => by
        have hP := HGW.out.push HV.out HAi.out hown hgrow (hat.imp id (fun e => by rw [e]; exact Nat.le_refl _))
        exact ⟨hP.1, (HK.out.trans ((Kx.of_below HBW.out).mono (fun _ _ hb => hb))).trans hP.2⟩)
      have HRow2 : Hid (∀ i, Rk.row (A.set a (r ++ [b])) i = if i < N then Rk.rw' (C.take (k + 1)) i else []) := hide (fun i => by
        rw [row_set (by omega), HCk.out, Rk.rw_snoc]
        by_cases e : a = i
        · subst e
          rw [if_pos rfl, if_pos heN, if_pos rfl, HRr.out, HR.out a, if_pos heN]
        · rw [if_neg e, if_neg e]
          exact HR.out i)
      clear HO HG HR HK HCk HRr HAi HGW HV
      clear hne hbw
      go_wp2
      go_region_law ((refine step_append_lies _ rfl _ _ 27 rfl (gb + 1) 3 i0 (.int .i64 0) 1 8 Try.underlying27 hi hz0 hz1 hz2 rfl (by decide) (.slice av r.length cv) r.length (ints (up r)) (by rfl) (by exact HOW.out) ⟨wr.heap.size + 1, 0, none⟩ 1 1 [.int .i64 (b : Int)] (by rfl) rfl (by exact HCN.out) (by intro u hu; simp at hu; subst hu; rfl) (by decide) (by unfold maxLen; omega) (by omega) (by simp; omega) _ rfl ?_; intro gn cap2 w7 hown hgrow hat hlt7; have hb7 : w7.heap[gb]? = wr.heap[gb]? := (hgrow.block gb (by simp; omega) HNE.out).trans (HBW.out.block gb hgl); have c7 : w7.cell? ⟨gb, a, none⟩ = some (.slice av r.length cv) := (World.cell?_of_block (w := wr) (a := ⟨gb, a, none⟩) hb7).trans cg; have f7 : w7.frozen? ⟨gb, a, none⟩ = false := (World.frozen?_of_block (w := wr) (a := ⟨gb, a, none⟩) hb7).trans fg; have e7 : w7.cell? ⟨wr.heap.size, 0, none⟩ = some (.int .i64 (a : Int)) := (hgrow.cell_far ⟨wr.heap.size, 0, none⟩ (by simp; omega) HNE2.out).trans HEC.out.1; have HOWN := hide hown; have HGRO := hide hgrow; have HAT := hide hat; clear hown hgrow hat hb7))
      all_goals
        have HQ := hide (HFIN.out gn cap2 w7 HOWN.out HGRO.out HAT.out)
        clear HOWN HGRO HAT HFIN HOW HCN HEC HNE HNE2 HBW
        go_wp2
        go_roundw
        case rel => exact ⟨k + 1, _, _, by omega, by go_num, by simpa using hAl, hide HQ.out.1, HRow2, hide HQ.out.2⟩
        case measure => simp [intOf]; omega
    · obtain rfl : k = C.length := by omega
      have d1 : decide ((C.length : Int) < (C.length : Int)) = false := by simp
      have HAd : Hid (Rk.Adj N E A) := hide (Rk.adj_of HC2.out HC3.out HE.out hAl (fun i hi => by have := HR.out i; rw [if_pos hi, List.take_length] at this; exact this))
      have HGr := hide (HG.out.gr N)
      rw [hAl] at HGr
      have HBe : Hid (Below w.heap.size w wr) := hide ((HB5.out.trans (HK.out.mono (fun b _ hb => by show b < gb; omega))).below_of (fun _ hb => hb))
      clear HR HG HK
      go_wp2
      go_ret
      exact ⟨_, A, rfl, HAd.out, HGr.out, HBe.out⟩
end Go.Proofs.Ytibhbbgpeckkfaa

import Derived.Test.YtfngmdebmedkjaePthO
import Derived.Test.YtfngmdebmedkjaePthE
/- The shortest way: the document's own reckoning. -/
namespace Go.Proofs.Ytfngmdebmedkjae
open Go.RowKit

theorem nx_in {p : Pa.Pr} : ∀ i v, v ∈ nxp p i → v < p.length ∧ i < p.length := fun i v hv => ⟨Pa.on_lt hv, by have := Pa.on_in hv; omega⟩
theorem first_of {P : Nat → Prop} [DecidablePred P] : ∀ (l : List Nat), (∃ x ∈ l, P x) → ∃ (k x : Nat), l[k]? = some x ∧ P x ∧ ∀ (j y : Nat), j < k → l[j]? = some y → ¬ P y
  | [], h => by obtain ⟨x, hx, -⟩ := h; cases hx
  | a :: r, h => by
    by_cases ha : P a
    · exact ⟨0, a, rfl, ha, fun j y hj => absurd hj (by omega)⟩
    · obtain ⟨x, hx, hp⟩ := h
      have hr : ∃ x ∈ r, P x := by
        rcases List.mem_cons.1 hx with rfl | hx
        · exact absurd hp ha
        · exact ⟨x, hx, hp⟩
      obtain ⟨k, y, h1, h2, h3⟩ := first_of r hr
      refine ⟨k + 1, y, by simpa using h1, h2, fun j z hj hz => ?_⟩
      cases j with
      | zero => simp at hz; rw [← hz]; exact ha
      | succ j => exact h3 j z (by omega) (by simpa using hz)
/-- The first one that is nearer by one. -/
theorem near_first {p : Pa.Pr} {D : List Int} {a : Nat} {d : Int} (hex : ∃ x ∈ nxp p a, D[x]? = some (d - 1)) : ∃ (k x : Nat), (nxp p a)[k]? = some x ∧ D[x]? = some (d - 1) ∧ (∀ (j y : Nat), j < k → (nxp p a)[j]? = some y → D[y]? ≠ some (d - 1)) ∧ ∀ y ∈ nxp p a, D[y]? = some (d - 1) → x ≤ y := by
  obtain ⟨k, x, hx, hd, hno⟩ := first_of (P := fun x => D[x]? = some (d - 1)) (nxp p a) hex
  refine ⟨k, x, hx, hd, hno, fun y hy he => ?_⟩
  obtain ⟨j, hj⟩ := List.getElem?_of_mem hy
  have hle : k ≤ j := Nat.le_of_not_lt (fun hlt => hno j y hlt hj he)
  by_cases e : k = j
  · subst e
    rw [hx] at hj
    cases hj
    exact Nat.le_refl _
  · have hs : (nxp p a).Pairwise (· < ·) := Pa.on_sorted p (a : Int)
    obtain ⟨p1, q1⟩ := List.getElem?_eq_some_iff.1 hx
    obtain ⟨p2, q2⟩ := List.getElem?_eq_some_iff.1 hj
    have := List.pairwise_iff_getElem.1 hs k j p1 p2 (by omega)
    rw [q1, q2] at this
    omega
theorem fw_end {p : Pa.Pr} {t a : Nat} {l : List Nat} (h : Pa.Fw (nxp p) t a l) (ha : a < p.length) : t < p.length := by
  induction h with
  | one => exact ha
  | cons hc _ ih => exact ih (nx_in _ _ hc).1
theorem run1 {nx : Nat → List Nat} {n a k u : Nat} (hlt : ∀ i v, v ∈ nx i → v < n) (hs : ∀ i, (nx i).Pairwise (· < ·)) : ∀ (rest d : List Nat) (ah : List Int) (ln : List Nat) (g : Nat → List Nat), Pa.Inv nx n a ah ln k d g → ln[k]? = some u → d ++ rest = nx u → ∃ ah' ln' g', Pa.Inv nx n a ah' ln' k (nx u) g' ∧ ln'[k]? = some u
  | [], d, ah, ln, g, h, hu, he => ⟨ah, ln, g, by rw [← he, List.append_nil]; exact h, hu⟩
  | v :: rest, d, ah, ln, g, h, hu, he => by
    have hvn : v < n := hlt u v (by rw [← he]; simp)
    by_cases hv : ah[v]? = some (-1)
    · have hk : k < ln.length := (List.getElem?_eq_some_iff.1 hu).1
      exact run1 hlt hs rest (d ++ [v]) _ _ _ (h.add hu (hs u) he hvn hv) (by rw [List.getElem?_append_left hk]; exact hu) (by rw [← he]; simp)
    · exact run1 hlt hs rest (d ++ [v]) _ _ _ (h.skip hvn hv) hu (by rw [← he]; simp)
theorem runAll {nx : Nat → List Nat} {n a : Nat} (hlt : ∀ i v, v ∈ nx i → v < n) (hs : ∀ i, (nx i).Pairwise (· < ·)) : ∀ (m k : Nat) (ah : List Int) (ln : List Nat) (g : Nat → List Nat), n - k ≤ m → k ≤ ln.length → Pa.Inv nx n a ah ln k [] g → ∃ ah' ln' g', Pa.Inv nx n a ah' ln' ln'.length [] g'
  | 0, k, ah, ln, g, hm, hk, h => by
    have := h.few
    obtain rfl : k = ln.length := by omega
    exact ⟨ah, ln, g, h⟩
  | m + 1, k, ah, ln, g, hm, hk, h => by
    by_cases he : k = ln.length
    · subst he; exact ⟨ah, ln, g, h⟩
    · obtain ⟨u, hu⟩ : ∃ u, ln[k]? = some u := ⟨_, List.getElem?_eq_getElem (by omega)⟩
      obtain ⟨ah', ln', g', h1, h2⟩ := run1 hlt hs (nx u) [] ah ln g h hu rfl
      have := h.few
      exact runAll hlt hs m (k + 1) ah' ln' g' (by omega) (List.getElem?_eq_some_iff.1 h2).1 (Pa.Inv.next h2 h1)
theorem short_way {p : Pa.Pr} {t a : Nat} {l : List Nat} (h : Pa.Fw (nxp p) t a l) (ha : a < p.length) : ∃ l', Pa.Fw (nxp p) t a l' ∧ l'.length ≤ p.length := by
  obtain ⟨ah, ln, g, hi⟩ := runAll (nx := nxp p) (n := p.length) (a := a) (fun i v hv => (nx_in i v hv).1) (fun i => Pa.on_sorted p (i : Int)) p.length 0 _ _ _ (by omega) (by simp) (Pa.Inv.start ha)
  have hm := (hi.best (Pa.fw_way h)).1
  obtain ⟨j, hj⟩ := List.getElem?_of_mem hm
  refine ⟨g t, Pa.way_fw (hi.way j t hj), ?_⟩
  have := inv_glen hi j t hj
  have := hi.few
  have := (List.getElem?_eq_some_iff.1 hj).1
  omega
/-- What the document says of a way. -/
def PTH0 (p : Pa.Pr) (i k : Int) (L : List Nat) : Prop :=
  (∃ a t : Nat, i = (a : Int) ∧ k = (t : Int) ∧ a < p.length ∧ t < p.length ∧ Pa.Best (nxp p) t a L) ∨
  (L = [] ∧ ∀ a t : Nat, i = (a : Int) → k = (t : Int) → a < p.length → t < p.length → ∀ l, ¬ Pa.Fw (nxp p) t a l)
theorem PTH.zero {p : Pa.Pr} {i k : Int} {L : List Nat} (h : PTH p i k L) : PTH0 p i k L := by
  rcases h with ⟨a, t, h1, h2, h3, h4, h5, -⟩ | h
  · exact .inl ⟨a, t, h1, h2, h3, h4, h5⟩
  · exact .inr h
theorem PTH0.eq {p : Pa.Pr} {i k : Int} {L M : List Nat} (h : PTH0 p i k L) (g : PTH0 p i k M) : L = M := by
  rcases h with ⟨a, t, h1, h2, h3, h4, h5⟩ | ⟨h1, h2⟩ <;> rcases g with ⟨a', t', g1, g2, g3, g4, g5⟩ | ⟨g1, g2⟩
  · obtain rfl : a = a' := by omega
    obtain rfl : t = t' := by omega
    exact h5.eq g5
  · exact absurd h5.1 (g2 a t h1 h2 h3 h4 L)
  · exact absurd g5.1 (h2 a' t' g1 g2 g3 g4 M)
  · rw [h1, g1]
theorem PTH.len {p : Pa.Pr} {i k : Int} {L : List Nat} (h : PTH p i k L) : L.length ≤ p.length := by
  rcases h with ⟨a, t, -, -, -, -, -, h⟩ | ⟨h, -⟩
  · exact h
  · rw [h]; simp

set_option maxRecDepth 100000 in
set_option maxHeartbeats 2000000 in
theorem wayTo_any (c : Cp) (i to : Int) (w : World) (h : PM c w) :
    Calls Try.prog 9 #[c.v, .int .i64 i, .int .i64 to] w fun e w' => ∃ (v : Value) (L : List Nat), e = .returned v ∧ IR w' v (up L) ∧ PTH0 c.p i to L ∧ Below w.heap.size w w' := by
  obtain ⟨i0, hi, hz0, hz1, hz2⟩ := info_parts Try.info3
  have hfew := h.few
  have HA : Hid (∀ w', Below w.heap.size w w' → Calls Try.prog 17 #[c.v, .int .i64 to] w' fun e w'' => ∃ (ga ca : Nat) (D : List Int), e = .returned (.slice (some ⟨ga, 0, none⟩) c.p.length ca) ∧ (∀ (k : Nat) x, D[k]? = some x → w''.cell? ⟨ga, k, none⟩ = some (.int .i64 x)) ∧ Pa.Aw (nxp c.p) c.p.length to D ∧ Pa.Shut (nxp c.p) D ∧ Below w'.heap.size w' w'') := hide (fun w' hb => away_any c to w' (h.keep hb))
  have HN : Hid (∀ (u : Nat) w', Below w.heap.size w w' → Calls Try.prog 18 #[c.v, .int .i64 u] w' fun e w'' => ∃ v, e = .returned v ∧ w''.ownsRow w'.heap.size 3 1 v (nxp c.p u).length (ints (up (nxp c.p u))) ∧ Below w'.heap.size w' w'') := hide (fun u w' hb => rnexts_any c u w' (h.keep hb))
  clear h
  unfold Cp.v at *
  obtain ⟨g, o, cc, a, nm, vs, pr, bl, p⟩ := c
  dsimp only at *
  have hb0 : Hid (Below w.heap.size w (w.alloc (.cells #[nm, vs, pr, bl, .slice a p.length cc] 26))) := hide ((Below.refl _ _).alloc (Nat.le_refl _) _)
  by_cases hn : i < 0
  · have d1 : decide (i < 0) = true := by simpa using hn
    go_enter Try.func9, Try.ntmps9
    go_wp2
    go_ret
    have HN0 : PTH0 p i to [] := .inr ⟨rfl, fun a t ha => by omega⟩
    first | exact ⟨_, [], rfl, own_ir (World.ownsRow_nil _ 0 _ _), HN0, hb0.out⟩ | exact ⟨_, rfl, [], own_ir (World.ownsRow_nil _ 0 _ _), HN0, hb0.out⟩
  have d1 := dec_no hn
  by_cases hbig : (p.length : Int) ≤ i
  · have d2 : decide ((p.length : Int) ≤ i) = true := by simpa using hbig
    go_enter Try.func9, Try.ntmps9
    go_wp2
    go_ret
    have HN0 : PTH0 p i to [] := .inr ⟨rfl, fun a t ha _ han => by omega⟩
    first | exact ⟨_, [], rfl, own_ir (World.ownsRow_nil _ 0 _ _), HN0, hb0.out⟩ | exact ⟨_, rfl, [], own_ir (World.ownsRow_nil _ 0 _ _), HN0, hb0.out⟩
  have d2 := dec_no hbig
  obtain ⟨s, rfl⟩ : ∃ s : Nat, i = (s : Int) := ⟨i.toNat, by omega⟩
  have hsn : s < p.length := by omega
  go_enter Try.func9, Try.ntmps9
  go_wp2_with fail
  refine (HA.out _ hb0.out).mono ?_
  rintro e w1 ⟨ga, ca, D, rfl, hcell, haw, hsh, hb1⟩
  have x0 : w1.cell? ⟨w.heap.size, 0, none⟩ = some nm := bsome hb1 (by simp [go_sem])
  have x1 : w1.cell? ⟨w.heap.size, 1, none⟩ = some vs := bsome hb1 (by simp [go_sem])
  have x2 : w1.cell? ⟨w.heap.size, 2, none⟩ = some pr := bsome hb1 (by simp [go_sem])
  have x3 : w1.cell? ⟨w.heap.size, 3, none⟩ = some bl := bsome hb1 (by simp [go_sem])
  have x4 : w1.cell? ⟨w.heap.size, 4, none⟩ = some (.slice a p.length cc) := bsome hb1 (by simp [go_sem])
  have HC := hide hcell
  have HW := hide haw
  have HS := hide hsh
  have HB1 := hide (btrans hb0.out hb1)
  have hDl : D.length = p.length := haw.len
  obtain ⟨d0, hd0⟩ : ∃ x, D[s]? = some x := ⟨_, List.getElem?_eq_getElem (by omega)⟩
  have hp0 := haw.pos s d0 hd0
  have c0 := hcell s d0 hd0
  clear hcell haw hsh hb1 HA hb0
  unfold Pa.far at hp0
  by_cases hfar : 1073741824 ≤ d0
  · have d3 : decide ((1073741824 : Int) ≤ d0) = true := by simpa using hfar
    have hnone : PTH0 p (s : Int) to [] := by
      refine .inr ⟨rfl, fun a t ha ht han htn l hl => ?_⟩
      obtain rfl : s = a := by omega
      -- a shortest way is no longer than there are instructions
      obtain ⟨l', hl', hlen⟩ := short_way hl han
      have := HW.out.far_le nx_in HS.out ht hl' d0 hd0
      omega
    have HNO := hide hnone
    clear hnone
    go_wp2
    go_ret
    first | exact ⟨_, [], rfl, own_ir (World.ownsRow_nil _ 0 _ _), HNO.out, HB1.out⟩ | exact ⟨_, rfl, [], own_ir (World.ownsRow_nil _ 0 _ _), HNO.out, HB1.out⟩
  have d3 := dec_no hfar
  obtain ⟨t, l0, rfl, hfw, -⟩ := HW.out.sound s d0 hd0 (by unfold Pa.far; omega)
  have htn := fw_end hfw hsn
  clear hfw
  have HD0 := hide hd0
  clear hd0
  go_wp2
  go_loopw [8, 9] (fun v av wr => ∃ (u : Nat) (W pre : List Nat) (x : Int), av = .int .i64 u ∧ u < p.length ∧ D[u]? = some x ∧ x < 1073741824 ∧ (W.length : Int) + x ≤ 1073741825 ∧ Hid (W = pre ++ [u] ∧ ∀ L, Pa.Best (nxp p) t u L → Pa.Best (nxp p) t s (pre ++ L)) ∧ Hid (wr.ownsRow w1.heap.size 3 1 v W.length (ints (up W))) ∧ Hid (Below w1.heap.size w1 wr)) (fun _ av _ => (D[(intOf av).toNat]?.getD 0).toNat)
  case atStart => exact ⟨s, [s], [], d0, rfl, hsn, HD0.out, by omega, by simp; omega, hide ⟨rfl, fun L hL => hL⟩, hide (own_first w1 (.int .i64 (s : Int))), hide ((Below.refl _ _).alloc (Nat.le_refl _) _)⟩
  case round =>
    obtain ⟨u, W, pre, x, rfl, hun, hx, hxf, hWx, HR, HO, HB⟩ := hrel
    have hxp := HW.out.pos u x hx
    have c1 := bsome HB.out (HC.out u x hx)
    have hs1 := HB.out.size
    have HX := hide hx
    clear hx
    by_cases hpos : 0 < x
    · have d4 : decide (0 < x) = true := by simpa using hpos
      obtain ⟨kk, xx, hk, hd, hno, hmin⟩ := near_first (HW.out.find nx_in HS.out HX.out (by unfold Pa.far; omega) hpos)
      have hxx : xx ∈ nxp p u := List.mem_of_getElem? hk
      have R : Hid (∀ L, Pa.Best (nxp p) t xx L → Pa.Best (nxp p) t s (pre ++ u :: L)) := hide (fun L hL => HR.out.2 _ (Pa.Best.step HW.out nx_in HS.out HX.out (by unfold Pa.far; omega) hxx hd hmin hL))
      have y0 := bsome HB.out x0
      have y1 := bsome HB.out x1
      have y2 := bsome HB.out x2
      have y3 := bsome HB.out x3
      have y4 := bsome HB.out x4
      obtain ⟨wo, hwo⟩ : ∃ q, q = wr := ⟨_, rfl⟩
      subst hwo
      go_wp2_with fail
      refine (HN.out u _ (btrans HB1.out HB.out)).mono ?_
      rintro e w2 ⟨vl, rfl, hol, hb2⟩
      have hlen2 := Pa.on_len p (u : Int)
      have hnl : (nxp p u).length ≤ 2 := hlen2
      have hkl : kk < (nxp p u).length := (List.getElem?_eq_some_iff.1 hk).1
      obtain ⟨gl, cl, rfl, hcl⟩ := own_form (l := up (nxp p u)) (by rw [up_len]; exact hol) (by rw [up_len]; omega)
      have HB2 := hide (btrans HB.out hb2)
      have HO2 : Hid (w2.ownsRow w1.heap.size 3 1 u8 W.length (ints (up W))) := hide (own_keep HO.out (fun g hg => hb2.block g (HO.out.lt g hg).2))
      have c2 := bsome hb2 c1
      have HCL := hide hcl
      have HNO := hide hno
      have HK := hide hk
      have HD := hide hd
      have hDx : ∀ (j y : Nat), (nxp p u)[j]? = some y → ∃ z, D[y]? = some z := fun j y hy => ⟨_, List.getElem?_eq_getElem (by have := (nx_in u y (List.mem_of_getElem? hy)).1; omega)⟩
      have HDX := hide hDx
      have HC2 : Hid (∀ (k : Nat) x, D[k]? = some x → w2.cell? ⟨ga, k, none⟩ = some (.int .i64 x)) := hide (fun k x hx => bsome HB2.out (HC.out k x hx))
      rw [up_len]
      clear hcl hno hk hd hol hb2 hmin hDx y0 y1 y2 y3 y4 HO HB c1
      go_wp2
      go_loopw [11] (fun kv wr => ∃ k : Nat, k ≤ kk ∧ kv = .int .i64 k ∧ ∃ n, wr = w2.drewN n) (fun kv _ => kk - (intOf kv).toNat)
      case atStart => exact ⟨0, Nat.zero_le _, rfl, 0, rfl⟩
      case round =>
        obtain ⟨k, hkk, rfl, n, rfl⟩ := hrel
        have hkn : k < (nxp p u).length := by omega
        obtain ⟨y, hy⟩ : ∃ y, (nxp p u)[k]? = some y := ⟨_, List.getElem?_eq_getElem hkn⟩
        have hyn := (nx_in u y (List.mem_of_getElem? hy)).1
        obtain ⟨z, hz⟩ := HDX.out k y hy
        have hzp := HW.out.pos y z hz
        unfold Pa.far at hzp
        have e0 := HCL.out k _ (up_get hy)
        have e1 := HC2.out y z hz
        have i1 : (0 : Int) ≤ (k : Int) := by omega
        have i2 : (k : Int) < ((nxp p u).length : Int) := by omega
        have i3 : (y : Int) < (p.length : Int) := by omega
        have i4 : (u : Int) < (p.length : Int) := by omega
        have i5 : IntKind.i64.wrap (x - 1) = x - 1 := by rw [IntKind.wrap_i64]; omega
        by_cases hlt : k < kk
        · have hne : z ≠ x - 1 := fun e => HNO.out k y hlt hy (by rw [hz, e])
          have d5 : (z != x - 1) = true := by simpa using hne
          clear hy hz
          go_wp2
          go_quiet (fail)
          go_wp2
          go_roundw
          case rel => exact ⟨k + 1, by omega, by go_num, _, rfl⟩
          case measure => simp [intOf]; omega
        · obtain rfl : k = kk := by omega
          obtain rfl : xx = y := by have := HK.out; rw [hy] at this; exact (Option.some.inj this).symm
          obtain rfl : z = x - 1 := by have := HD.out; rw [hz] at this; exact Option.some.inj this
          have d5 : (x - 1 != x - 1) = false := by simp
          have HZ := hide hz
          clear hy hz
          go_wp2
          go_quiet (fail)
          go_wp2_with (at_builtin; refine wpList_append_lies _ rfl _ _ 30 rfl w1.heap.size 3 i0 (.int .i64 0) 1 8 Try.underlying30 hi hz0 hz1 hz2 rfl (by decide) _ _ _ rfl ((own_keep HO2.out (fun g hg => rfl)).alloc _) ⟨w2.heap.size, 0, none⟩ 1 1 [.int .i64 xx] rfl rfl ?c1 ?c2 (by decide) ?c4 ?c5 ?c6 _ rfl ?_)
          case c1 => exact cell_one_new (w2.drewN _) _ _
          case c2 => intro u hu; simp at hu; subst hu; rfl
          case c4 => unfold maxLen; omega
          case c5 => omega
          case c6 => have := HB2.out.size; simp; omega
          intro gn cap w3 hown hgrow hat hlt2
          have HB3 : Hid (Below w1.heap.size w1 w3) := hide (((below_drewN HB2.out _).alloc HB2.out.size _).grown hgrow (by have := HB2.out.size; simp; omega) (fun j hj => (HO2.out.lt j hj).1))
          have HO3 : Hid (w3.ownsRow w1.heap.size 3 1 (.slice (some ⟨gn, 0, none⟩) (W.length + 1) cap) (W ++ [xx]).length (ints (up (W ++ [xx])))) := by
            rw [up_app, ints_app, List.length_append]
            exact hown
          have HR3 : Hid (W ++ [xx] = (pre ++ [u]) ++ [xx] ∧ ∀ L, Pa.Best (nxp p) t xx L → Pa.Best (nxp p) t s ((pre ++ [u]) ++ L)) := hide ⟨by rw [HR.out.1], fun L hL => by have := R.out L hL; simpa using this⟩
          have hM : (D[xx]?.getD 0).toNat < (D[u]?.getD 0).toNat := by rw [HZ.out, HX.out]; simp; omega
          have HMM := hide hM
          clear hown hgrow hat HO2 HB2 hM
          go_wp2
          go_roundw
          case rel => exact ⟨xx, W ++ [xx], pre ++ [u], x - 1, rfl, hyn, HZ.out, by omega, by simp; omega, HR3, HO3, HB3⟩
          case measure => simpa [intOf] using HMM.out
    · obtain rfl : x = 0 := by omega
      have d4 : decide ((0 : Int) < 0) = false := by decide
      have he : t = u := by have := HW.out.end HX.out; omega
      have HF : Hid (PTH0 p (s : Int) (t : Int) W) := hide (.inl ⟨s, t, rfl, rfl, hsn, htn, by rw [HR.out.1]; exact HR.out.2 _ (by rw [← he]; exact Pa.Best.one)⟩)
      have HI : Hid (IR wr u8 (up W)) := hide (own_ir (by rw [up_len]; exact HO.out))
      have HBF := hide (btrans HB1.out HB.out)
      clear HO HB HR he
      go_wp2
      go_ret
      first | exact ⟨_, W, rfl, HI.out, HF.out, HBF.out⟩ | exact ⟨_, rfl, W, HI.out, HF.out, HBF.out⟩
end Go.Proofs.Ytfngmdebmedkjae

import Derived.Test.YtibhbbgpeckkfaaRnkW
/- Package ranks: the round that a node is the least one of. -/
namespace Go.Proofs.Ytibhbbgpeckkfaa
open Go.RowKit

theorem bs_bk {n : Nat} {A : List (List Nat)} {v : Nat} {ah : List Int} {ln : List Nat} {k : Nat} {d : List Nat} {g : Nat → List Nat} (h : Rk.BS n A v ah ln k d g) : ∀ (j : Nat) x, ln[j]? = some x → ∃ t, (g x).reverse = x :: t ∧ Bk ah (x :: t) ∧ (g x).length ≤ j + 1 := by
  intro j
  induction j using Nat.strongRecOn with
  | ind j ih =>
    intro x hx
    by_cases h0 : j = 0
    · subst h0
      rw [h.inv.z] at hx
      cases hx
      exact ⟨[], by rw [h.inv.zg]; rfl, h.av, by rw [h.inv.zg]; simp⟩
    · obtain ⟨i, u, h1, -, h3, h4, -, h6, -⟩ := h.inv.par j x (by omega) hx
      obtain ⟨t, g1, g2, g3⟩ := ih i h1 u h3
      have hxv : x ≠ v := fun e => by
        subst e
        have := (List.getElem?_inj (List.getElem?_eq_some_iff.1 hx).1 h.inv.nd).1 (hx.trans h.inv.z.symm)
        omega
      rw [List.getElem?_set_ne (by omega)] at h4
      refine ⟨u :: t, by rw [h6, List.reverse_append, g1]; rfl, ⟨h4, g2⟩, ?_⟩
      rw [h6, List.length_append]
      simp
      omega
/-- A round that is told. -/
def RV (w : World) (B : Nat) (v : Value) (o : List Nat) : Prop :=
  IR w v (up o) ∧ (o = [] → v = .slice none 0 0) ∧ (o ≠ [] → ∃ g cap, v = .slice (some ⟨g, 0, none⟩) o.length cap ∧ B ≤ g)

set_option maxRecDepth 100000 in
set_option maxHeartbeats 4000000 in
theorem roundOf_any (n : Nat) (E : Rk.Eg) (A : List (List Nat)) (gv : Value) (v : Nat) (w : World) (h : GR w gv A) (hA : Rk.Adj n E A) (hn : n ≤ 300) (hv : v < n) :
    Calls Try.prog 29 #[gv, .int .i64 v] w fun e w' => ∃ (rv : Value) (o : List Nat), e = .returned rv ∧ Rk.RO E v o ∧ RV w' w.heap.size rv o ∧ Below w.heap.size w w' := by
  obtain ⟨i0, hi, hz0, hz1, hz2⟩ := info_parts Try.info3
  obtain ⟨gb, cc, rfl, h⟩ := h
  have hlen := hA.len
  rw [hlen]
  have HG := hide h
  have HA := hide hA
  have HL := hide hlen
  have hb0 : Below w.heap.size w (w.alloc (.cells #[.int .i64 (-1)] 3)) := (Below.refl _ _).alloc (Nat.le_refl _) _
  have HRe := hide (repeat_any n w.heap.size (w.alloc (.cells #[.int .i64 (-1)] 3)) hn (by omega) (by simp [go_sem]))
  have HB0 := hide hb0
  clear h hA hlen hb0
  go_enter Try.func29, Try.ntmps29
  go_wp2_with fail
  refine HRe.out.mono ?_
  rintro e w1 ⟨rfl, har, hb1⟩
  have hs1 := hb1.size
  simp only [World.size_alloc] at hs1 har
  have HB1 := hide (btrans HB0.out hb1)
  have HAR := hide (har.below ((Below.refl _ _).alloc (Nat.le_refl _) (.cells #[.int .i64 (v : Int)] 3)))
  have HO1 := hide (own_first w1 (.int .i64 (v : Int)))
  have HB2 := hide (HB1.out.alloc (show w.heap.size ≤ w1.heap.size by omega) (.cells #[.int .i64 (v : Int)] 3))
  have hga := har.lt
  clear har hb1 HRe HB0 HB1
  go_wp2
  have hW1 : w1.heap.size ≤ (w1.alloc (.cells #[.int .i64 (v : Int)] 3)).heap.size := by simp
  generalize hW : w1.alloc (.cells #[.int .i64 (v : Int)] 3) = W at HAR HO1 HB2 hW1 ⊢
  generalize hB : w1.heap.size = B at *
  generalize hGa : w.heap.size + 1 = ga at *
  clear hW hB
  go_loopw [6, 7] (fun lv kv wr => ∃ (k : Nat) (ah : List Int) (ln : List Nat) (g : Nat → List Nat), k ≤ ln.length ∧ kv = .int .i64 k ∧ Hid (wr.ownsRow B 3 1 lv ln.length (ints (up ln))) ∧ Hid (AR ga wr ah) ∧ Hid (Below w.heap.size w wr) ∧ Hid (Rk.BS n A v ah ln k [] g) ∧ B ≤ wr.heap.size) (fun _ kv _ => n - (intOf kv).toNat)
  case atStart => exact ⟨0, List.replicate n (-1), [v], fun _ => [v], by simp, rfl, HO1, HAR, HB2, hide (Rk.BS.start hv), hW1⟩
  case round =>
    obtain ⟨k, ah, ln, g, hk, rfl, HO, HR, HB, HS, hBw⟩ := hrel
    have hfew : ln.length ≤ n := HS.out.inv.few
    by_cases hlt : k < ln.length
    · obtain ⟨u, hu⟩ : ∃ u, ln[k]? = some u := ⟨_, List.getElem?_eq_getElem hlt⟩
      obtain ⟨gl, cl, rfl, cu⟩ := own_at HO.out hu
      have hun : u < n := HS.out.inv.lt u (List.mem_of_getElem? hu)
      obtain ⟨a, ca, c0, q⟩ := HG.out u (Rk.row A u) (Rk.row_get (by rw [HL.out]; exact hun))
      have c1 := bsome HB.out c0
      have HQ := hide q
      have hrl : (Rk.row A u).length ≤ n := HA.out.few u
      obtain ⟨R, hR⟩ : ∃ R, R = Rk.row A u := ⟨_, rfl⟩
      have HRow := hide hR
      rw [← hR] at c1 HQ hrl
      have HU := hide hu
      clear c0 q hR hu
      have d1 : decide ((k : Int) < (ln.length : Int)) = true := by simp; omega
      have k0 : (0 : Int) ≤ (k : Int) := by omega
      have k1 : (k : Int) < (ln.length : Int) := by omega
      have k2 : (0 : Int) ≤ (u : Int) := by omega
      have k3 : (u : Int) < (n : Int) := by omega
      go_wp2
      obtain ⟨wo, hwo⟩ : ∃ wo, wr = wo := ⟨_, rfl⟩
      subst wr
      clear cu c1
      go_loopw [6, 32] (fun lv jv wr => ∃ (j : Nat) (ah : List Int) (ln : List Nat) (g : Nat → List Nat), j ≤ R.length ∧ jv = .int .i64 j ∧ Hid (wr.ownsRow B 3 1 lv ln.length (ints (up ln))) ∧ Hid (AR ga wr ah) ∧ Hid (Below w.heap.size w wr) ∧ Hid (Rk.BS n A v ah ln k (Rk.dv A v u j) g) ∧ Hid (ln[k]? = some u) ∧ Hid (v ∉ (Rk.row A u).take j) ∧ B ≤ wr.heap.size) (fun _ jv _ => R.length - (intOf jv).toNat)
      case atStart => exact ⟨0, ah, ln, g, Nat.zero_le _, rfl, HO, HR, HB, HS, HU, hide (by simp), hBw⟩
      case round =>
        clear HO HR HB HS HU hBw d1 k1 hlt hk hfew
        obtain ⟨j, ah, ln, g, hj, rfl, HO, HR, HB, HS, HU, HNv, hBw⟩ := hrel
        have hfew : ln.length ≤ n := HS.out.inv.few
        have hk : k < ln.length := (List.getElem?_eq_some_iff.1 HU.out).1
        by_cases hjl : j < R.length
        · have d2 : decide ((j : Int) < (R.length : Int)) = true := by simp; omega
          obtain ⟨t, ht⟩ : ∃ t, R[j]? = some t := ⟨_, List.getElem?_eq_getElem hjl⟩
          obtain ⟨gq, rfl, q⟩ := HQ.out (ne_of_get ht)
          have t0 := bsome HB.out (q j t ht)
          have HT : Hid ((Rk.row A u)[j]? = some t) := hide (by rw [← HRow.out]; exact ht)
          have htn : t < n := (HA.out.lt (up_mem HT.out)).2
          have hahl : ah.length = n := by have := HS.out.inv.len; simpa using this
          clear q ht
          by_cases htv : t = v
          · subst htv
            obtain ⟨p, e1, e2, e3⟩ := bs_bk HS.out k u HU.out
            have HRO := hide (HS.out.back HA.out HU.out (up_mem HT.out))
            have hgl : (g u).length ≤ 1000 := by omega
            have CW := hide (wayTo_any ga n u ah (g u) p wr e1 e2 HR.out hahl hgl)
            have hgp : g u ≠ [] := fun e => by rw [e] at e1; simp at e1
            have HGP := hide hgp
            have b1 : ((t : Int) == (t : Int)) = true := by simp
            clear e1 e2 e3 HS HNv HU HT hgp hgl
            go_wp2_with fail
            refine CW.out.mono ?_
            rintro e w2 ⟨g2, cap2, rfl, hg2, hir2, hb2⟩
            have HIR := hide hir2
            have HBB := hide (btrans HB.out hb2)
            have hsz := HB.out.size
            clear hir2 hb2 CW HB
            go_wp2
            go_ret
            exact ⟨_, g u, rfl, HRO.out, ⟨HIR.out, fun e => absurd e HGP.out, fun _ => ⟨g2, cap2, rfl, by omega⟩⟩, HBB.out⟩
          · have b1 : ((t : Int) == (v : Int)) = false := by simp; omega
            have HNv2 : Hid (v ∉ (Rk.row A u).take (j + 1)) := hide (by
              rw [Rk.take_step HT.out, List.mem_append]
              rintro (hh | hh)
              · exact HNv.out hh
              · exact htv (List.mem_singleton.1 hh).symm)
            by_cases hvt : v < t
            · have d3 : decide ((v : Int) < (t : Int)) = true := by simp; omega
              obtain ⟨x, hx⟩ : ∃ x, ah[t]? = some x := ⟨_, List.getElem?_eq_getElem (by omega)⟩
              have c2 := HR.out.cell t x hx
              have f2 := HR.out.thaw t
              have p0 : (0 : Int) ≤ (t : Int) := by omega
              have p1 : (t : Int) < (n : Int) := by omega
              by_cases hx1 : x = -1
              · subst hx1
                have HS2 := hide (HS.out.add HA.out HU.out HT.out hvt htn hx)
                have HR2 := hide (HR.out.set hx (u : Int))
                have HB2 : Hid (Below w.heap.size w (wr.setCell ⟨ga, t, none⟩ (.int .i64 (u : Int)))) := hide (HB.out.setCell (p := ⟨ga, t, none⟩) (by show w.heap.size ≤ ga; omega) _)
                have HO2 : Hid ((wr.setCell ⟨ga, t, none⟩ (.int .i64 (u : Int))).ownsRow B 3 1 _ ln.length (ints (up ln))) := hide (own_keep HO.out (fun g' hg' => Below.heap_setCell _ _ _ _ (by have := (HO.out.lt g' hg').1; show g' ≠ ga; omega)))
                have HU2 : Hid ((ln ++ [t])[k]? = some u) := hide (by rw [List.getElem?_append_left hk]; exact HU.out)
                have hsz2 : (wr.setCell ⟨ga, t, none⟩ (.int .i64 (u : Int))).heap.size = wr.heap.size := by simp [World.setCell]
                clear hx HS HR HB HO HU HNv HT
                go_wp2_with (at_builtin; refine wpList_append_lies _ rfl _ _ 27 rfl B 3 i0 (.int .i64 0) 1 8 Try.underlying27 hi hz0 hz1 hz2 rfl (by decide) _ _ _ rfl (HO2.out.alloc _) ⟨wr.heap.size, 0, none⟩ 1 1 [.int .i64 (t : Int)] rfl rfl ?c1 ?c2 ?c3 ?c4 ?c5 ?c6 _ rfl ?_)
                case c1 =>
                  have := cell_one_new (wr.setCell ⟨ga, t, none⟩ (.int .i64 (u : Int))) (.int .i64 (t : Int)) 3
                  simpa [hsz2] using this
                case c2 => intro u hu; simp at hu; subst hu; rfl
                case c3 => decide
                case c4 => unfold maxLen; omega
                case c5 => omega
                case c6 => simp; omega
                intro gn cap w3 hown hgrow hat hlt2
                have hgs := hgrow.size
                simp only [World.size_alloc] at hgs
                have HO3 : Hid (w3.ownsRow B 3 1 (.slice (some ⟨gn, 0, none⟩) (ln.length + 1) cap) (ln ++ [t]).length (ints (up (ln ++ [t])))) := by
                  rw [up_app, ints_app, List.length_append]
                  exact hown
                have hnb : some ga ≠ _ := fun e => by have := (HO2.out.lt ga e.symm).1; omega
                have HR3 : Hid (AR ga w3 (ah.set t (u : Int))) := hide (HR2.out.keep ((hgrow.block ga (by simp; omega) hnb).trans (Below.heap_alloc _ _ _ (by omega))) (by omega))
                have HB3 : Hid (Below w.heap.size w w3) := hide ((HB2.out.alloc (by omega) _).grown hgrow (by simp; omega) (fun j hj => by have := (HO2.out.lt j hj).1; omega))
                have hB3 : B ≤ w3.heap.size := by omega
                clear hown hgrow hat HO2 HB2 HR2 hnb hgs hsz2
                go_wp2
                go_roundw
                case rel => exact ⟨j + 1, ah.set t (u : Int), ln ++ [t], _, by omega, by go_num, HO3, HR3, HB3, HS2, HU2, HNv2, hB3⟩
                case measure => simp [intOf]; omega
              · have b3 : (x == -1) = false := by simpa using hx1
                have HS2 := hide (HS.out.skip HT.out hvt htn (by rw [hx]; simpa using hx1))
                clear hx HS HNv HT hx1
                go_wp2
                go_roundw
                case rel => exact ⟨j + 1, ah, ln, g, by omega, by go_num, HO, HR, HB, HS2, HU, HNv2, hBw⟩
                case measure => simp [intOf]; omega
            · have d3 : decide ((v : Int) < (t : Int)) = false := by simp; omega
              have HS2 := hide (HS.out.low HT.out hvt)
              clear HS HNv HT
              go_wp2
              go_roundw
              case rel => exact ⟨j + 1, ah, ln, g, by omega, by go_num, HO, HR, HB, HS2, HU, HNv2, hBw⟩
              case measure => simp [intOf]; omega
        · obtain rfl : j = R.length := by omega
          have d2 : decide ((R.length : Int) < (R.length : Int)) = false := by simp
          have HS2 : Hid (Rk.BS n A v ah ln (k + 1) [] g) := hide (by
            have h1 := HS.out
            have h2 := HNv.out
            rw [HRow.out] at h1 h2
            rw [Rk.dv_all] at h1
            rw [List.take_length] at h2
            exact Rk.BS.next HU.out h1 h2)
          clear HS HNv HU
          go_wp2
          go_roundw
          case rel => exact ⟨k + 1, ah, ln, g, by omega, by go_num, HO, HR, HB, HS2, hBw⟩
          case measure => simp [intOf]; omega
    · obtain rfl : k = ln.length := by omega
      have d1 : decide ((ln.length : Int) < (ln.length : Int)) = false := by simp
      obtain ⟨sa, sc, rfl⟩ := own_slice HO.out
      have HD := hide (HS.out.none HA.out)
      clear HS
      go_wp2
      go_ret
      exact ⟨_, [], rfl, HD.out, ⟨own_ir (World.ownsRow_nil _ 0 _ _), fun _ => rfl, fun e => absurd rfl e⟩, HB.out⟩
end Go.Proofs.Ytibhbbgpeckkfaa

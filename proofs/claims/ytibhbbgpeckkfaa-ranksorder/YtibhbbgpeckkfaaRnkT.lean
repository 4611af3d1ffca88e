import Derived.Test.YtibhbbgpeckkfaaRnkR
/- Package ranks: ranks, whole. -/
namespace Go.Proofs.Ytibhbbgpeckkfaa
open Go.RowKit

theorem own_slice {w : World} {B : Nat} {v : Value} {n : Nat} {xs : List Value} (h : w.ownsRow B 3 1 v n xs) : ∃ a c, v = .slice a n c := by
  rcases h.2 with ⟨hv, h0⟩ | ⟨g, cap, cur, hv, -⟩
  · exact ⟨none, 0, by rw [hv, h0]⟩
  · exact ⟨_, _, hv⟩
theorem own_at {w : World} {B : Nat} {v : Value} {S : List Nat} (h : w.ownsRow B 3 1 v S.length (ints (up S))) {k f : Nat} (hk : S[k]? = some f) : ∃ g cap, v = .slice (some ⟨g, 0, none⟩) S.length cap ∧ w.cell? ⟨g, k, none⟩ = some (.int .i64 (f : Int)) := by
  have hk' := (List.getElem?_eq_some_iff.1 hk).1
  obtain ⟨g, cap, hv, -, -⟩ := h.form (by omega)
  refine ⟨g, cap, hv, ?_⟩
  have := h.cells (g := g) (by rw [hv]; rfl) k (.int .i64 (f : Int)) (by simp [ints, up, hk])
  rw [add_off] at this
  exact this
theorem take_snoc {S : List Nat} {k : Nat} {f : Nat} (h : S[k]? = some f) : S.take k ++ [f] = S.take (k + 1) := by rw [List.take_add_one, h]; rfl
theorem not_take {S : List Nat} (hd : S.Nodup) {k f : Nat} (h : S[k]? = some f) : f ∉ S.take k := Rk.nodup_at hd h

set_option maxRecDepth 100000 in
set_option maxHeartbeats 4000000 in
theorem gxranks_any (n : Nat) (E : Rk.Eg) (A : List (List Nat)) (v : Value) (w : World) (h : GR w v A) (hA : Rk.Adj n E A) (hn : n ≤ 300) :
    Calls Try.prog 18 #[v] w fun e w' => ∃ (r : List Nat) (b : Bool), e = .returned (.tuple #[.slice (some ⟨w.heap.size, 0, none⟩) n n, .bool b]) ∧ r.length = n ∧ AR w.heap.size w' (up r) ∧ Below w.heap.size w w' ∧ (b = true → Rk.Rks n E (Rk.g r)) ∧ (b = false → Rk.Cyc E) := by
  obtain ⟨Z, hZ, mk⟩ := make_ints n hn
  have hb0 : Below w.heap.size w (w.alloc (.cells Z 3)) := (Below.refl _ _).alloc (Nat.le_refl _) _
  have HCo := hide (comers_any n E A v (w.alloc (.cells Z 3)) (h.keep hb0) hA hn)
  obtain ⟨gb, cc, rfl, h⟩ := h
  have hlen := hA.len
  rw [hlen] at HCo
  rw [hlen]
  have HG := hide h
  have HA := hide hA
  have HL := hide hlen
  have HA0 := hide (ar_new w Z n hZ)
  have HB0 := hide hb0
  have mf := fun (fn : Fn) (first cap : Array Value) (w : World) => (rfl : (Instr.makeFunc fn first cap).run Try.prog w = .ok (.func fn first cap) w)
  clear h hA hZ hlen hb0
  go_enter Try.func18, Try.ntmps18
  go_wp2_with fail
  refine HCo.out.mono ?_
  rintro e w1 ⟨c, rfl, hac, hcm, hb1⟩
  have hs1 := hb1.size
  simp only [World.size_alloc] at hs1 hac
  have hbw : Below w.heap.size w w1 := btrans HB0.out hb1
  have hg1 : AR w.heap.size w1 (List.replicate n 0) := HA0.out.below hb1
  have HLK : Hid (LK w w.heap.size (w.heap.size + 1) w1.heap.size (w1.heap.size + 1) n ((w1.alloc (.cells #[.slice (some ⟨w.heap.size + 1, 0, none⟩) n n] 27)).alloc (.cells #[.slice none 0 0] 27)) c (List.replicate n 0) [] (.slice none 0 0)) := hide (by
    have hlt := hac.lt
    have hz : (w1.alloc (.cells #[.slice (some ⟨w.heap.size + 1, 0, none⟩) n n] 27)).heap.size = w1.heap.size + 1 := by simp
    refine ⟨?_, ?_, by simp [go_sem], by simp [go_sem], by simp [go_sem], World.ownsRow_nil _ _ _ _, Nat.le_refl _, by omega, by omega, by omega, by simp, (hbw.alloc (by omega) _).alloc (by simp; omega) _⟩
    · rw [up_rep]
      exact (hg1.below ((Below.refl _ _).alloc (Nat.le_refl _) _)).below ((Below.refl _ _).alloc (Nat.le_refl _) _)
    · exact (hac.below ((Below.refl _ _).alloc (Nat.le_refl _) _)).below ((Below.refl _ _).alloc (Nat.le_refl _) _))
  have HCM := hide hcm
  have hcl := hcm.len
  clear hcm hac hb1 hg1 HA0 HB0 hbw HCo
  go_wp2
  generalize ((w1.alloc (.cells #[.slice (some ⟨w.heap.size + 1, 0, none⟩) n n] 27)).alloc (.cells #[.slice none 0 0] 27)) = W at HLK ⊢
  generalize hbo : w1.heap.size = bo at *
  clear hbo mk mf
  go_loopw [20] (fun iv wr => ∃ (i : Nat) (sv : Value), i ≤ n ∧ iv = .int .i64 i ∧ Hid (LK w w.heap.size (w.heap.size + 1) bo (bo + 1) n wr c (List.replicate n 0) (Rk.zs c i) sv)) (fun iv _ => n - (intOf iv).toNat)
  case atStart => exact ⟨0, _, Nat.zero_le _, rfl, HLK⟩
  case round =>
    obtain ⟨i, sv, hi, rfl, HK⟩ := hrel
    by_cases hlt : i < n
    · have d1 : decide ((i : Int) < (n : Int)) = true := by simp; omega
      have HLo := hide (look_any w w.heap.size (w.heap.size + 1) bo (bo + 1) n wr c _ (Rk.zs c i) sv i HK.out hcl hlt (by have := Rk.zs_len c i; omega))
      rw [← Rk.zs_step] at HLo
      go_wp2_with fail
      refine HLo.out.mono ?_
      rintro e w2 ⟨rfl, sv2, hk2⟩
      have HK2 := hide hk2
      clear hk2 HLo HK
      go_wp2
      go_roundw
      case rel => exact ⟨i + 1, sv2, by omega, by go_num, HK2⟩
      case measure => simp [intOf]; omega
    · obtain rfl : i = n := by omega
      have d1 : decide ((i : Int) < (i : Int)) = false := by simp
      have HKI : Hid (Rk.KI i E A (Rk.dn A ((Rk.zs c i).take 0) 0 0) c (List.replicate i 0) (Rk.zs c i)) := hide (Rk.KI.start HCM.out 0)
      have HBd : Hid (∀ x, Rk.g (List.replicate i 0) x ≤ 0 * 301) := hide (fun x => by simp [Rk.g, List.getD_eq_getElem?_getD, List.getElem?_replicate]; split <;> simp)
      generalize List.replicate i 0 = r at *
      generalize Rk.zs c i = S at *
      generalize hcc : c = o at *
      clear hcc
      clear HLK HCM hcl c d1
      go_wp2
      go_loopw [8] (fun kv wr => ∃ (k : Nat) (o r S : List Nat) (sv : Value), k ≤ S.length ∧ kv = .int .i64 k ∧ Hid (LK w w.heap.size (w.heap.size + 1) bo (bo + 1) i wr o r S sv) ∧ Hid (Rk.KI i E A (Rk.dn A (S.take k) 0 0) o r S) ∧ Hid (∀ x, Rk.g r x ≤ k * 301)) (fun kv _ => i - (intOf kv).toNat)
      case atStart => exact ⟨0, o, r, S, sv, Nat.zero_le _, rfl, HK, HKI, HBd⟩
      case round =>
        obtain ⟨k, o, r, S, sv, hk, rfl, HK, HKI, HBd⟩ := hrel
        have hfew : S.length ≤ i := HKI.out.few
        by_cases hlt : k < S.length
        · obtain ⟨f, hf⟩ : ∃ f, S[k]? = some f := ⟨_, List.getElem?_eq_getElem hlt⟩
          obtain ⟨gs, cs, rfl, cf⟩ := own_at HK.out.so hf
          have c5 := HK.out.sc
          have hfi : f < i := HKI.out.lt f (List.mem_of_getElem? hf)
          obtain ⟨a, ca, c0, q⟩ := HG.out f (Rk.row A f) (Rk.row_get (by rw [HL.out]; exact hfi))
          have c1 := bsome HK.out.bl c0
          have HQ := hide q
          have hrl : (Rk.row A f).length ≤ i := HA.out.few f
          obtain ⟨R, hR⟩ : ∃ R, R = Rk.row A f := ⟨_, rfl⟩
          have HRow := hide hR
          rw [← hR] at c1 HQ hrl
          obtain ⟨T, hT⟩ : ∃ T, T = S.take k := ⟨_, rfl⟩
          have HKI2 : Hid (Rk.KI i E A (Rk.dn A T f 0) o r S) := hide (HKI.out.cong (fun x y => by rw [hT]; exact Rk.dn_zero _ _ _ _ _))
          have HT := hide hT
          have HF := hide hf
          have HBd2 : Hid (∀ x, Rk.g r x ≤ k * 301 + 0) := HBd
          clear c0 q hR hT hf HKI HBd
          have d1 : decide ((k : Int) < (S.length : Int)) = true := by simp; omega
          have k0 : (0 : Int) ≤ (k : Int) := by omega
          have k1 : (k : Int) < (S.length : Int) := by omega
          have k2 : (0 : Int) ≤ (f : Int) := by omega
          have k3 : (f : Int) < (i : Int) := by omega
          go_wp2
          obtain ⟨wo, hwo⟩ : ∃ wo, wr = wo := ⟨_, rfl⟩
          subst wr
          clear cf c5
          go_loopw [42] (fun jv wr => ∃ (j : Nat) (o r S : List Nat) (sv : Value), j ≤ R.length ∧ jv = .int .i64 j ∧ Hid (LK w w.heap.size (w.heap.size + 1) bo (bo + 1) i wr o r S sv) ∧ Hid (Rk.KI i E A (Rk.dn A T f j) o r S) ∧ Hid (∀ x, Rk.g r x ≤ k * 301 + j) ∧ Hid (T = S.take k) ∧ Hid (S[k]? = some f)) (fun jv _ => R.length - (intOf jv).toNat)
          case atStart => exact ⟨0, o, r, S, _, Nat.zero_le _, rfl, HK, HKI2, HBd2, HT, HF⟩
          case round =>
            clear HK HKI2 HBd2 HT HF d1 k1 hlt hk hfew c1
            obtain ⟨j, o, r, S, sv, hj, rfl, HK, HKI, HBd, HT, HF⟩ := hrel
            have hfew : S.length ≤ i := HKI.out.few
            have hk : k < S.length := (List.getElem?_eq_some_iff.1 HF.out).1
            by_cases hjl : j < R.length
            · have d2 : decide ((j : Int) < (R.length : Int)) = true := by simp; omega
              obtain ⟨t, ht⟩ : ∃ t, R[j]? = some t := ⟨_, List.getElem?_eq_getElem hjl⟩
              obtain ⟨gq, rfl, q⟩ := HQ.out (ne_of_get ht)
              have t0 := bsome HK.out.bl (q j t ht)
              have HTt : Hid ((Rk.row A f)[j]? = some t) := hide (by rw [← HRow.out]; exact ht)
              have htn : t < i := (HA.out.lt (up_mem HTt.out)).2
              have hol := HKI.out.ol
              have hrl' := HKI.out.rl
              have hfs : f ∈ S := List.mem_of_getElem? HF.out
              have hdn : Rk.dn A T f j f t = false := Rk.dn_new HA.out (by rw [HT.out]; exact not_take HKI.out.nd HF.out) HTt.out
              obtain ⟨hpos, hts⟩ := HKI.out.pos HA.out (up_mem HTt.out) hdn
              have HS := hide (HKI.out.step HA.out hfs (up_mem HTt.out) hdn (Rk.dn_step HTt.out))
              have r1 := HK.out.ar.cell _ _ (up_g (o := r) (v := t) (by omega))
              have r2 := HK.out.ar.cell _ _ (up_g (o := r) (v := f) (by omega))
              have r3 := HK.out.ar.thaw t
              have o0 := HK.out.oc
              have o1 := HK.out.ac.cell _ _ (up_g (o := o) (v := t) (by omega))
              have o2 := HK.out.ac.thaw t
              have b1 := HBd.out t
              have b2 := HBd.out f
              have HOG : Hid (Rk.g o t ≤ i) := hide (by rw [HKI.out.cnt t htn]; exact Rk.cnt_le _ _)
              have hkk : k * 301 ≤ 300 * 301 := Nat.mul_le_mul_right 301 (by omega)
              have p2 : (0 : Int) ≤ (t : Int) := by omega
              have p3 : (t : Int) < (i : Int) := by omega
              clear q ht hts hdn hfs
              go_wp2
              go_region
              have hm : (if ((Rk.g r t : Nat) : Int) < ((Rk.g r f : Nat) : Int) + 1 then ((Rk.g r f : Nat) : Int) + 1 else ((Rk.g r t : Nat) : Int)) = ((max (Rk.g r t) (Rk.g r f + 1) : Nat) : Int) := by
                split <;> omega
              rw [hm]
              have HK1 := hide ((HK.out.rank (t := t) (by omega) (max (Rk.g r t) (Rk.g r f + 1))).drewN 1)
              have HBd2 : Hid (∀ x, Rk.g (r.set t (max (Rk.g r t) (Rk.g r f + 1))) x ≤ k * 301 + (j + 1)) := hide (fun x => by
                rw [Rk.g_set _ _ _ _ (by omega)]
                have := HBd.out x
                split <;> omega)
              have hdw : (wr.setCell ⟨w.heap.size, t, none⟩ (.int .i64 ((max (Rk.g r t) (Rk.g r f + 1) : Nat) : Int))).drewN 1 = (wr.setCell ⟨w.heap.size, t, none⟩ (.int .i64 ((max (Rk.g r t) (Rk.g r f + 1) : Nat) : Int))).drew := rfl
              rw [hdw] at HK1
              generalize (wr.setCell ⟨w.heap.size, t, none⟩ (.int .i64 ((max (Rk.g r t) (Rk.g r f + 1) : Nat) : Int))).drew = W2 at HK1 ⊢
              generalize r.set t (max (Rk.g r t) (Rk.g r f + 1)) = r' at HK1 HBd2 HS
              clear hm hdw HK HBd r1 r2 r3 b1 b2 t0 o0 o1 o2 HKI
              have o0 := HK1.out.oc
              have o1 := HK1.out.ac.cell _ _ (up_g (o := o) (v := t) (by omega))
              have o2 := HK1.out.ac.thaw t
              have hog : Rk.g o t ≤ i := HOG.out
              have hsub : ((Rk.g o t : Nat) : Int) - 1 = ((Rk.g o t - 1 : Nat) : Int) := by omega
              have HK2 := hide (HK1.out.open (t := t) (by omega) (Rk.g o t - 1))
              have hg' : Rk.g (o.set t (Rk.g o t - 1)) t = Rk.g o t - 1 := by rw [Rk.g_set _ _ _ _ (by omega), if_pos rfl]
              have HLo := hide (look_any w w.heap.size (w.heap.size + 1) bo (bo + 1) i _ _ _ S sv t HK2.out (by simpa using hol) htn (by omega))
              rw [hg'] at HLo
              have HO2 := hide hol
              have HO3 := hide hpos
              clear hg' HK2 HK1 hol hpos
              go_wp2_with fail
              refine HLo.out.mono ?_
              rintro e w2 ⟨rfl, sv2, hk2⟩
              have HK3 := hide hk2
              have HX : Hid ((if Rk.g o t - 1 = 0 then S ++ [t] else S)[k]? = some f ∧ T = (if Rk.g o t - 1 = 0 then S ++ [t] else S).take k) := hide (by
                split
                · exact ⟨by rw [List.getElem?_append_left hk]; exact HF.out, by rw [List.take_append_of_le_length (by omega)]; exact HT.out⟩
                · exact ⟨HF.out, HT.out⟩)
              generalize (if Rk.g o t - 1 = 0 then S ++ [t] else S) = S' at HK3 HX HS
              generalize o.set t (Rk.g o t - 1) = o' at HK3 HS
              clear hk2 HLo hsub o0 o1 o2 hog HOG
              go_wp2
              go_roundw
              case rel => exact ⟨j + 1, o', r', S', sv2, by omega, by go_num, HK3, HS, HBd2, hide HX.out.2, hide HX.out.1⟩
              case measure => simp [intOf]; omega
            · obtain rfl : j = R.length := by omega
              have d2 : decide ((R.length : Int) < (R.length : Int)) = false := by simp
              have HKI2 : Hid (Rk.KI i E A (Rk.dn A (S.take (k + 1)) 0 0) o r S) := hide (HKI.out.cong (fun x y => by rw [HRow.out, Rk.dn_next T f 0 x y, HT.out, take_snoc HF.out]))
              have HBd2 : Hid (∀ x, Rk.g r x ≤ (k + 1) * 301) := hide (fun x => by have := HBd.out x; omega)
              clear HKI HBd HT HF
              go_wp2
              go_roundw
              case rel => exact ⟨k + 1, o, r, S, sv, by omega, by go_num, HK, HKI2, HBd2⟩
              case measure => simp [intOf]; omega
        · obtain rfl : k = S.length := by omega
          have d1 : decide ((S.length : Int) < (S.length : Int)) = false := by simp
          obtain ⟨sa, sc, rfl⟩ := own_slice HK.out.so
          have c5 := HK.out.sc
          have HD : Hid ((S.length = i → Rk.Rks i E (Rk.g r)) ∧ (S.length ≠ i → Rk.Cyc E)) := hide (by
            have h1 := HKI.out
            rw [List.take_length] at h1
            exact h1.done HA.out)
          have hrl := HKI.out.rl
          clear HKI HBd
          go_wp2
          go_quiet (fail)
          go_wp2
          refine bodyPost_ret (v := .tuple #[.slice (some ⟨w.heap.size, 0, none⟩) i i, .bool ((S.length : Int) == (i : Int))]) (by simp [results, Try.results18, go_sem]) rfl ?_
          refine ⟨r, _, rfl, hrl, (HK.out.drewN nq).ar, (HK.out.drewN nq).bl, fun hb => HD.out.1 ?_, fun hb => HD.out.2 ?_⟩
          · have := eq_of_beq hb
            omega
          · intro e
            rw [e] at hb
            simp at hb
end Go.Proofs.Ytibhbbgpeckkfaa

import Derived.Test.YtibhbbgpeckkfaaRnkI
import Derived.Deep.RegionLaw
/- The law RanksMore. -/
namespace Go.Proofs.Ytibhbbgpeckkfaa
open Go.RowKit

theorem field_fault (x y : Value) (w : World) : (Instr.field 25 (.agg #[x, y]) 0).run Try.prog w = .ok x w := by kernel_rfl
/-- A row of edges of one's own. -/
def OE (B : Nat) (w : World) (v : Value) (M : List (Int × Int)) : Prop := (∃ ao co, v = .slice ao M.length co) ∧ w.ownsRow B 30 2 v M.length (ecells M)
theorem OE.nil (B : Nat) (w : World) {M : List (Int × Int)} (h : M = []) : OE B w (.slice none 0 0) M := by
  subst h
  exact ⟨⟨none, 0, rfl⟩, rfl, .inl ⟨rfl, rfl⟩⟩
theorem OE.er {B : Nat} {w : World} {v : Value} {M : List (Int × Int)} (h : OE B w v M) : ER w v M := own_er h.2
theorem OE.app {B : Nat} {w' : World} {M S : List (Int × Int)} {g cap m : Nat} (hm : S.length = m) (hown : w'.ownsRow B 30 2 (.slice (some ⟨g, 0, none⟩) (M.length + m) cap) (M.length + m) (ecells M ++ ecells S)) : OE B w' (.slice (some ⟨g, 0, none⟩) (M.length + m) cap) (M ++ S) := by
  subst hm
  refine ⟨⟨_, _, by rw [List.length_append]⟩, ?_⟩
  rw [List.length_append, ecells_app]
  exact hown
theorem OE.cut {B : Nat} {w : World} {v : Value} {M S : List (Int × Int)} (h : OE B w v M) (hs : S = []) : OE B w v (M ++ S) := by
  subst hs
  rw [List.append_nil]
  exact h
theorem er_cells {w : World} {g off : Nat} {L : List (Int × Int)} (q : ∀ (k : Nat) x, L[k]? = some x → w.cell? ⟨g, off + k * 2, none⟩ = some (.int .i64 x.1) ∧ w.cell? ⟨g, off + k * 2 + 1, none⟩ = some (.int .i64 x.2)) {S : List (Int × Int)} {p : Nat} (hS : ∀ (k : Nat) x, S[k]? = some x → L[p + k]? = some x) :
    ∀ j u, (ecells S)[j]? = some u → w.cell? ((⟨g, off + p * 2, none⟩ : Addr).add j) = some u := by
  intro j u hu
  obtain ⟨k, e, h1, h2⟩ := ecells_get hu
  obtain ⟨c1, c2⟩ := q (p + k) e (hS k e h1)
  rcases h2 with ⟨rfl, rfl⟩ | ⟨rfl, rfl⟩
  · rw [Addr.add_mid, show off + p * 2 + k * 2 = off + (p + k) * 2 by omega]
    exact c1
  · rw [Addr.add_mid, show off + p * 2 + (k * 2 + 1) = off + (p + k) * 2 + 1 by omega]
    exact c2
theorem take_some {α : Type} {l : List α} {k j : Nat} {x : α} (h : (l.take k)[j]? = some x) : l[j]? = some x := by
  rw [List.getElem?_take] at h
  split at h
  · exact h
  · cases h
theorem own_keepE {B : Nat} {w w' : World} {v : Value} {n : Nat} {xs : List Value} (h : w.ownsRow B 30 2 v n xs) (hk : ∀ g, v.ownBlock = some g → w'.heap[g]? = w.heap[g]?) : w'.ownsRow B 30 2 v n xs := by
  refine ⟨h.1, ?_⟩
  rcases h.2 with h | ⟨g, cap, cur, hv, hb, hg, rest⟩
  · exact .inl h
  · exact .inr ⟨g, cap, cur, hv, hb, by rw [hk g (by rw [hv]; rfl)]; exact hg, rest⟩
theorem cell_two_new (w : World) (x y : Value) (t : TypeId) : ∀ j u, [x, y][j]? = some u → (w.alloc (.cells #[x, y] t)).cell? ((⟨w.heap.size, 0, none⟩ : Addr).add j) = some u := by
  intro j u hu
  match j, hu with
  | 0, hu => simp at hu; subst hu; simp [go_sem, Addr.add]
  | 1, hu => simp at hu; subst hu; simp [go_sem, Addr.add]
/-- What Ranks answers of a graph that is right. -/
def RR (N : Nat) (E : Rk.Eg) (o : List Nat) (F : Int × Int) : Prop := (F = (0, 0) ∧ o.length = N ∧ Rk.Rks N E (Rk.g o)) ∨ (F = (17, -1) ∧ o = [] ∧ Rk.Cyc E)
theorem KR.two {N : Nat} {E : Rk.Eg} {w w' : World} {e : Ending} (h : KR (N : Int) (up2 E) w e w') (hg : gfl (N : Int) (up2 E) = (0, 0)) :
    ∃ a c o F, e = .returned (.tuple #[.slice a o.length c, .agg #[.int .i64 F.1, .int .i64 F.2]]) ∧ IR w' (.slice a o.length c) (up o) ∧ Below w.heap.size w w' ∧ RR N E o F ∧ (∀ ad, a = some ad → w.heap.size ≤ ad.block) := by
  obtain ⟨a, k, c, F, rfl, hb, hfr, hq⟩ := h
  rcases hq with ⟨hq, -⟩ | ⟨-, hq⟩
  · rw [hg] at hq; exact absurd rfl hq
  · rcases hq N E rfl rfl with ⟨o, h1, rfl, h3, h4, h5⟩ | ⟨h1, rfl, h3⟩
    · rw [← h1] at h5 ⊢
      exact ⟨a, c, o, F, rfl, h5, hb, .inl ⟨h3, rfl, h1 ▸ h4⟩, hfr⟩
    · exact ⟨a, c, [], F, rfl, ⟨a, c, rfl, fun h => absurd rfl h⟩, hb, .inr ⟨h3, rfl, h1⟩, hfr⟩
theorem KO.two {N : Nat} {E : Rk.Eg} {w w' : World} {e : Ending} (h : KO (N : Int) (up2 E) w e w') (hg : gfl (N : Int) (up2 E) = (0, 0)) :
    ∃ a c o, e = .returned (.tuple #[.slice a o.length c, .agg #[.int .i64 0, .int .i64 0]]) ∧ IR w' (.slice a o.length c) (up o) ∧ Below w.heap.size w w' ∧ Rk.Rnd E o := by
  obtain ⟨a, k, c, F, rfl, hb, -, hq⟩ := h
  rcases hq with ⟨hq, -⟩ | ⟨-, rfl, hq⟩
  · rw [hg] at hq; exact absurd rfl hq
  · obtain ⟨o, rfl, h1, h2⟩ := hq E rfl
    exact ⟨a, c, o, rfl, h2, hb, h1⟩
theorem RR.one {N : Nat} {E G : Rk.Eg} {o p : List Nat} {F H : Int × Int} (h : RR N E o F) (k : RR N G p H) (he : ∀ e, e ∈ E ↔ e ∈ G) : o = p ∧ F = H := by
  rcases h with ⟨rfl, h1, h2⟩ | ⟨rfl, rfl, h2⟩
  · rcases k with ⟨rfl, k1, k2⟩ | ⟨-, -, k2⟩
    · exact ⟨Rk.rks_eq (h2.congr he) k2 h1 k1, rfl⟩
    · exact absurd (k2.sub fun e h => (he e).2 h) h2.acyc
  · rcases k with ⟨-, -, k2⟩ | ⟨rfl, rfl, -⟩
    · exact absurd (h2.sub fun e h => (he e).1 h) k2.acyc
    · exact ⟨rfl, rfl⟩
theorem RR.len {N : Nat} {E : Rk.Eg} {o : List Nat} {F : Int × Int} (h : RR N E o F) : o.length ≤ N := by
  rcases h with ⟨-, h, -⟩ | ⟨-, rfl, -⟩
  · omega
  · simp
def Gbx (n : Int) (L : List (Int × Int)) (m : Nat) (b : Bool) : Prop := b = true ↔ ¬ (1 ≤ n ∧ n ≤ 60 ∧ L.length ≤ m ∧ (gfl n L).1 = 0)

set_option maxRecDepth 100000 in
set_option maxHeartbeats 4000000 in
theorem rmore_any (n : Int) (L : List (Int × Int)) (v : Value) (xa xb xc : Int) (w : World) (h : ER w v L) (h0 : ∀ c, v = .slice none 0 c → c = 0) (hc : ∀ a m c, v = .slice a m c → m ≤ c) (hll : L.length ≤ 9223372036854775807) :
    Calls Try.prog 5 #[.int .i64 n, v, .int .i64 xa, .int .i64 xb, .int .i64 xc] w fun e w' => e = .returned (.bool true) ∧ Below w.heap.size w w' := by
  have HW := hide h
  have H0 := hide h0
  have HLL := hide hll
  obtain ⟨a, c, rfl, hER⟩ := h
  have HCC := hide (hc _ _ _ rfl)
  have HR := hide hER
  obtain ⟨i0, hi0, hz0, hz1, hz2⟩ := info_parts Try.infoEdge
  clear hER h0 hll hc
  go_enter Try.func5, Try.ntmps5
  go_wp2_with fail
  refine (rbegun_any _).mono ?_
  rintro e w1 ⟨rfl, hb1⟩
  have HB1 := hide hb1
  clear hb1
  have hfd := field_fault
  go_upto_region 3 with fail
  go_cut [46] from 29 (fun v46 wx => ∃ b : Bool, v46 = .bool b ∧ Hid (Gbx n L 150 b) ∧ Hid (Below w.heap.size w wx))
  case first =>
    by_cases h1 : n < 1
    · have e3 : Hid (Gbx n L 150 true) := hide (by unfold Gbx; simp; omega)
      go_wp2
      go_meet
      case rel => exact ⟨_, rfl, e3, HB1⟩
    · have d1 : decide (n < 1) = false := by simpa using h1
      by_cases h2 : 60 < n
      · have e3 : Hid (Gbx n L 150 true) := hide (by unfold Gbx; simp; omega)
        go_wp2
        go_meet
        case rel => exact ⟨_, rfl, e3, HB1⟩
      · have d2 : decide (60 < n) = false := by simpa using h2
        by_cases h3 : 150 < L.length
        · have d3 : (150 : Int) < (L.length : Int) := by omega
          have e3 : Hid (Gbx n L 150 true) := hide (by unfold Gbx; simp; omega)
          go_wp2
          go_meet
          case rel => exact ⟨_, rfl, e3, HB1⟩
        · have d3 : decide ((150 : Int) < (L.length : Int)) = false := by simp; omega
          have HWC := hide (HW.out.keep HB1.out)
          by_cases h4 : (gfl n L).1 = 0
          · have e3 : Hid (Gbx n L 150 false) := hide (by unfold Gbx; simp [h4]; omega)
            have d4 : ((gfl n L).1 == 0) = true := by simpa using h4
            go_wp2_with fail
            refine (rkCheck_any n L _ _ HWC.out).mono ?_
            rintro e w2 ⟨rfl, hb2⟩
            have HB2 := hide (btrans HB1.out hb2)
            clear hb2
            go_wp2
            go_meet
            case rel => exact ⟨_, rfl, e3, HB2⟩
          · have e3 : Hid (Gbx n L 150 ((gfl n L).1 != 0)) := hide (by
              have e : ((gfl n L).1 != 0) = true := by simpa using h4
              rw [e]
              unfold Gbx
              simp [h4])
            have d4 : ((gfl n L).1 == 0) = false := by simpa using h4
            go_wp2_with fail
            refine (rkCheck_any n L _ _ HWC.out).mono ?_
            rintro e w2 ⟨rfl, hb2⟩
            have HB2 := hide (btrans HB1.out hb2)
            clear hb2
            go_wp2
            go_meet
            case rel => exact ⟨_, rfl, e3, HB2⟩
  case rest =>
    obtain ⟨b, rfl, HG, HB2⟩ := hcut
    cases b with
    | true =>
      go_wp2
      go_ret
      exact ⟨rfl, HB2.out⟩
    | false =>
      have hnb : 1 ≤ n ∧ n ≤ 60 ∧ L.length ≤ 150 ∧ (gfl n L).1 = 0 := by
        have := HG.out
        unfold Gbx at this
        simpa using this
      obtain ⟨hn1, hn60, hl, hg0⟩ := hnb
      obtain ⟨hg1, -, N, E, rfl, -, rfl, hIn⟩ := gfl_ok hg0
      have HIn := hide hIn
      rw [up2_len] at *
      obtain ⟨k, hk, hke⟩ := kpick xc (E.length + 1) (by omega) (by omega)
      have hk' : k ≤ E.length := by omega
      clear HG hIn hg0 HB1
      rw [show ((E.length + 1 : Nat) : Int) = (E.length : Int) + 1 from rfl] at hke
      have HKE := hide hke
      have HER : Hid (ER wc (.slice a E.length c) (up2 E)) := hide (HW.out.keep HB2.out)
      have HRC : Hid (up2 E ≠ [] → ∃ g o, a = some ⟨g, o, none⟩ ∧ g < wc.heap.size ∧ ∀ (k : Nat) x, (up2 E)[k]? = some x → wc.cell? ⟨g, o + k * 2, none⟩ = some (.int .i64 x.1) ∧ wc.cell? ⟨g, o + k * 2 + 1, none⟩ = some (.int .i64 x.2)) := hide (fun hne => by
        have hlt := HER.out.lt hne
        obtain ⟨a5, c5, e5, h5⟩ := HER.out
        obtain ⟨g, o, e6, q⟩ := h5 hne
        obtain ⟨rfl, -, rfl⟩ : a = a5 ∧ True ∧ c = c5 := by rw [up2_len] at e5; simpa using e5
        exact ⟨g, o, e6, hlt g (by rw [e6]; rfl), q⟩)
      have hcc : E.length ≤ c := by simpa using HCC.out
      have hk0 : (0 : Int) ≤ (k : Int) := by omega
      have hk1 : (k : Int) ≤ (E.length : Int) := by omega
      have hk2 : (E.length : Int) ≤ (c : Int) := by omega
      have hk3 : (k : Int) ≤ (c : Int) := by omega
      clear hke
      obtain ⟨WA, hWA⟩ : ∃ WA, wc = WA := ⟨_, rfl⟩
      subst wc
      go_upto_region 7 with fail
      rw [HKE.out]
      go_cut [12] from 55 (fun v12 wx => Hid (OE WA.heap.size wx v12 ((up2 E).drop k)) ∧ Hid (Below WA.heap.size WA wx))
      case first =>
        have hdl : ((up2 E).drop k).length = E.length - k := by rw [List.length_drop, up2_len]
        by_cases hkl : k = E.length
        · have HO0 := hide (OE.nil WA.heap.size WA (M := (up2 E).drop k) (List.drop_eq_nil_of_le (by rw [up2_len]; omega)))
          subst hkl
          by_cases hck : c = E.length
          · cases a with
            | none =>
              go_wp2
              go_meet
              case rel => exact ⟨HO0, hide (Below.refl _ _)⟩
            | some ad =>
              go_wp2
              go_meet
              case rel => exact ⟨HO0, hide (Below.refl _ _)⟩
          · cases a with
            | none =>
              go_wp2
              go_meet
              case rel => exact ⟨HO0, hide (Below.refl _ _)⟩
            | some ad =>
              go_wp2
              go_meet
              case rel => exact ⟨HO0, hide (Below.refl _ _)⟩
        · obtain ⟨g, off, rfl, hgl, q⟩ := HRC.out (fun e => by have := congrArg List.length e; rw [up2_len, List.length_nil] at this; omega)
          have CC := hide (er_cells (p := k) (S := (up2 E).drop k) q (fun j x hx => by simpa [List.getElem?_drop] using hx))
          have hck : ¬ c = k := by omega
          clear q
          go_wp2_with (at_builtin; refine wpList_append_lies _ rfl _ _ 22 rfl WA.heap.size 30 i0 (.agg #[.int .i64 0, .int .i64 0]) 2 16 Try.underlying22 hi0 hz0 hz1 hz2 rfl (by decide) (.slice none 0 0) 0 [] rfl ⟨rfl, .inl ⟨rfl, rfl⟩⟩ ⟨g, off + k * 2, none⟩ (E.length - k) (c - k) (ecells ((up2 E).drop k)) rfl (by rw [ecells_len, hdl]) CC.out (ecells_one _) (by omega) (by unfold maxLen; omega) (by omega) (Nat.le_refl _) _ rfl ?_)
          intro g2 cap2 w2 hown hgrow hat hlt2
          have HO2 : Hid (OE WA.heap.size w2 (.slice (some ⟨g2, 0, none⟩) (0 + (E.length - k)) cap2) ((up2 E).drop k)) := hide (OE.app (M := []) hdl (by simpa [ecells] using hown))
          have HB3 : Hid (Below WA.heap.size WA w2) := hide ((Below.refl _ _).grown hgrow (Nat.le_refl _) (fun j hj => by simp [Value.ownBlock] at hj))
          clear hown hgrow hat
          go_wp2
          go_meet
          case rel => exact ⟨by simpa using HO2, HB3⟩
      case rest =>
        obtain ⟨HO, HB3⟩ := hcut
        obtain ⟨⟨ao, co, rfl⟩, hown0⟩ := HO.out
        have hM : ((up2 E).drop k).length ≤ 400 := by simp [up2_len]; omega
        obtain ⟨ML, hML⟩ : ∃ ML, ((up2 E).drop k).length = ML := ⟨_, rfl⟩
        have HOO := hide hown0
        clear hown0
        obtain ⟨WB, hWB⟩ : ∃ WB, wc = WB := ⟨_, rfl⟩
        subst wc
        rw [hML] at HOO hM ⊢
        go_upto_region 8 with fail
        go_cut [12] from 60 (fun v12 wx => Hid (OE WA.heap.size wx v12 ((up2 E).drop k ++ (up2 E).take k)) ∧ Hid (Below WA.heap.size WA wx))
        case first =>
          have hSl : ((up2 E).take k).length = k := by simp [up2_len]; omega
          by_cases hm0 : k = 0
          · have hS0 : (up2 E).take k = [] := List.eq_nil_of_length_eq_zero (by omega)
            have HO0 := hide (HO.out.cut hS0)
            rw [hML] at HO0
            rcases HOO.out.2 with ⟨hv, hn⟩ | ⟨gg, cap, cur, hv, -, -, hnc, -, -, -⟩
            · obtain ⟨rfl, rfl, rfl⟩ : ao = none ∧ ML = 0 ∧ co = 0 := by simpa using hv
              obtain rfl : k = 0 := hm0
              cases a with
              | none =>
                go_wp2
                go_meet
                case rel => exact ⟨HO0, HB3⟩
              | some ad =>
                go_wp2
                go_meet
                case rel => exact ⟨HO0, HB3⟩
            · obtain ⟨rfl, -, rfl⟩ : ao = some ⟨gg, 0, none⟩ ∧ True ∧ co = cap := by simpa using hv
              have hnc' : (ML : Int) ≤ (co : Int) := by omega
              obtain rfl : k = 0 := hm0
              cases a with
              | none =>
                go_wp2
                go_meet
                case rel => exact ⟨HO0, HB3⟩
              | some ad =>
                go_wp2
                go_meet
                case rel => exact ⟨HO0, HB3⟩
          · obtain ⟨g, off, rfl, hgl, q⟩ := HRC.out (fun e => by have := congrArg List.length e; rw [up2_len, List.length_nil] at this; omega)
            have CC := hide (er_cells (p := 0) (S := (up2 E).take k) (w := WB) (fun j x hx => ⟨(World.cell?_of_block (w := WA) (a := ⟨g, off + j * 2, none⟩) (HB3.out.block g hgl)).trans (q j x hx).1, (World.cell?_of_block (w := WA) (a := ⟨g, off + j * 2 + 1, none⟩) (HB3.out.block g hgl)).trans (q j x hx).2⟩) (fun j x hx => by rw [Nat.zero_add]; exact take_some hx))
            clear q
            have hsz := HB3.out.size
            go_wp2_with (at_builtin; refine wpList_append_lies _ rfl _ _ 22 rfl WA.heap.size 30 i0 (.agg #[.int .i64 0, .int .i64 0]) 2 16 Try.underlying22 hi0 hz0 hz1 hz2 rfl (by decide) (.slice ao ML co) ML (ecells ((up2 E).drop k)) rfl HOO.out ⟨g, off + 0 * 2, none⟩ (k) c (ecells ((up2 E).take k)) (by first | rfl | simp) (by rw [ecells_len, hSl]) CC.out (ecells_one _) (by omega) (by unfold maxLen; omega) (by omega) hsz _ rfl ?_)
            intro g2 cap2 w2 hown hgrow hat hlt2
            have HO2 : Hid (OE WA.heap.size w2 (.slice (some ⟨g2, 0, none⟩) (ML + (k)) cap2) ((up2 E).drop k ++ (up2 E).take k)) := hide (by subst hML; exact OE.app hSl hown)
            have HB4 : Hid (Below WA.heap.size WA w2) := hide (HB3.out.grown hgrow hsz (fun j hj => (HOO.out.lt j hj).1))
            clear hown hgrow hat
            go_wp2
            go_meet
            case rel => exact ⟨HO2, HB4⟩
        case rest =>
          obtain ⟨HO, HB3⟩ := hcut
          obtain ⟨⟨ao, co, rfl⟩, hown0⟩ := HO.out
          have hM : ((up2 E).drop k ++ (up2 E).take k).length ≤ 400 := by simp [up2_len]; omega
          obtain ⟨ML, hML⟩ : ∃ ML, ((up2 E).drop k ++ (up2 E).take k).length = ML := ⟨_, rfl⟩
          have HOO := hide hown0
          clear hown0
          obtain ⟨WC, hWC⟩ : ∃ WC, wc = WC := ⟨_, rfl⟩
          subst wc
          rw [hML] at HOO hM ⊢
          go_upto_region 9 with fail
          go_cut [12] from 65 (fun v12 wx => Hid (OE WA.heap.size wx v12 ((up2 E).drop k ++ (up2 E).take k ++ (up2 E).drop k)) ∧ Hid (Below WA.heap.size WA wx))
          case first =>
            have hSl : ((up2 E).drop k).length = E.length - k := by simp [up2_len]
            by_cases hm0 : E.length - k = 0
            · have hS0 : (up2 E).drop k = [] := List.eq_nil_of_length_eq_zero (by omega)
              have HO0 := hide (HO.out.cut hS0)
              rw [hML] at HO0
              rcases HOO.out.2 with ⟨hv, hn⟩ | ⟨gg, cap, cur, hv, -, -, hnc, -, -, -⟩
              · obtain ⟨rfl, rfl, rfl⟩ : ao = none ∧ ML = 0 ∧ co = 0 := by simpa using hv
                have hkl : k = E.length := by omega
                subst hkl
                clear hm0
                by_cases hck : c = E.length
                · subst hck
                  cases a with
                  | none =>
                    go_wp2
                    go_meet
                    case rel => exact ⟨HO0, HB3⟩
                  | some ad =>
                    go_wp2
                    go_meet
                    case rel => exact ⟨HO0, HB3⟩
                · cases a with
                  | none =>
                    go_wp2
                    go_meet
                    case rel => exact ⟨HO0, HB3⟩
                  | some ad =>
                    go_wp2
                    go_meet
                    case rel => exact ⟨HO0, HB3⟩
              · obtain ⟨rfl, -, rfl⟩ : ao = some ⟨gg, 0, none⟩ ∧ True ∧ co = cap := by simpa using hv
                have hnc' : (ML : Int) ≤ (co : Int) := by omega
                have hkl : k = E.length := by omega
                subst hkl
                clear hm0
                by_cases hck : c = E.length
                · subst hck
                  cases a with
                  | none =>
                    go_wp2
                    go_meet
                    case rel => exact ⟨HO0, HB3⟩
                  | some ad =>
                    go_wp2
                    go_meet
                    case rel => exact ⟨HO0, HB3⟩
                · cases a with
                  | none =>
                    go_wp2
                    go_meet
                    case rel => exact ⟨HO0, HB3⟩
                  | some ad =>
                    go_wp2
                    go_meet
                    case rel => exact ⟨HO0, HB3⟩
            · obtain ⟨g, off, rfl, hgl, q⟩ := HRC.out (fun e => by have := congrArg List.length e; rw [up2_len, List.length_nil] at this; omega)
              have CC := hide (er_cells (p := k) (S := (up2 E).drop k) (w := WC) (fun j x hx => ⟨(World.cell?_of_block (w := WA) (a := ⟨g, off + j * 2, none⟩) (HB3.out.block g hgl)).trans (q j x hx).1, (World.cell?_of_block (w := WA) (a := ⟨g, off + j * 2 + 1, none⟩) (HB3.out.block g hgl)).trans (q j x hx).2⟩) (fun j x hx => by simpa [List.getElem?_drop] using hx))
              have hck : ¬ c = k := by omega
              clear q
              have hsz := HB3.out.size
              go_wp2_with (at_builtin; refine wpList_append_lies _ rfl _ _ 22 rfl WA.heap.size 30 i0 (.agg #[.int .i64 0, .int .i64 0]) 2 16 Try.underlying22 hi0 hz0 hz1 hz2 rfl (by decide) (.slice ao ML co) ML (ecells ((up2 E).drop k ++ (up2 E).take k)) rfl HOO.out ⟨g, off + k * 2, none⟩ (E.length - k) (c - k) (ecells ((up2 E).drop k)) (by first | rfl | simp) (by rw [ecells_len, hSl]) CC.out (ecells_one _) (by omega) (by unfold maxLen; omega) (by omega) hsz _ rfl ?_)
              intro g2 cap2 w2 hown hgrow hat hlt2
              have HO2 : Hid (OE WA.heap.size w2 (.slice (some ⟨g2, 0, none⟩) (ML + (E.length - k)) cap2) ((up2 E).drop k ++ (up2 E).take k ++ (up2 E).drop k)) := hide (by subst hML; exact OE.app hSl hown)
              have HB4 : Hid (Below WA.heap.size WA w2) := hide (HB3.out.grown hgrow hsz (fun j hj => (HOO.out.lt j hj).1))
              clear hown hgrow hat
              go_wp2
              go_meet
              case rel => exact ⟨HO2, HB4⟩
          case rest =>
            obtain ⟨HO, HB3⟩ := hcut
            obtain ⟨⟨ao, co, rfl⟩, hown0⟩ := HO.out
            obtain ⟨E3, hE3⟩ : ∃ E3 : Rk.Eg, (E.drop k ++ E.take k) ++ E.drop k = E3 := ⟨_, rfl⟩
            have hM3 : ((up2 E).drop k ++ (up2 E).take k) ++ (up2 E).drop k = up2 E3 := by rw [← hE3, up2_app, up2_app, up2_drop, up2_take]
            have HMem : Hid (∀ e, e ∈ E ↔ e ∈ E3) := hide (fun e => by rw [← hE3]; exact (Rk.mem_turn E k e).symm)
            have hl3 : E3.length ≤ 450 := by rw [← hE3]; simp; omega
            have HOW : Hid (wc.ownsRow WA.heap.size 30 2 (.slice ao E3.length co) E3.length (ecells (up2 E3))) := hide (by have h9 := HO.out.2; rw [hM3, up2_len] at h9; exact h9)
            have HE3 : Hid (ER wc (.slice ao E3.length co) (up2 E3)) := hide (by have h9 := HO.out.er; rw [hM3, up2_len] at h9; exact h9)
            rw [hM3, up2_len]
            have HIn3 := hide (Rk.in_of HIn.out (fun e he => (HMem.out e).2 he))
            have hg3 := gfl_in (N := N) (E := E3) (by omega) HIn3.out (by omega)
            have HE0 : Hid (ER wc (.slice a E.length c) (up2 E)) := hide (by
              by_cases hne : up2 E = []
              · exact ⟨a, c, by rw [up2_len], fun h => absurd hne h⟩
              · exact HER.out.keepN HB3.out (HER.out.lt hne))
            obtain ⟨W0, hW0⟩ : ∃ W0, wc = W0 := ⟨_, rfl⟩
            subst wc
            have HSZ := hide HB3.out.size
            have HWw := hide HB2.out.size
            have HB0 : Hid (w.heap.size ≤ W0.heap.size) := hide (Nat.le_trans HB2.out.size HB3.out.size)
            have HB4 : Hid (Below w.heap.size w W0) := hide (HB2.out.trans (HB3.out.mono HB2.out.size))
            clear hown0 HO hE3 hM3 HB3 HB2 HER HRC HKE
            have HNN : Hid ((N : Int) ≤ 60) := hide hn60
            go_wp2_with fail
            refine (rkRanks_any N (up2 E) _ _ HE0.out (fun _ => HNN.out)).mono ?_
            intro e w4 h4
            obtain ⟨a4, c4, o4, F4, rfl, hi4, hb4, hr4, hfr4⟩ := h4.two hg1
            have HF4 := hide hfr4
            have hs04 := hb4.size
            clear hfr4
            have HR4 := hide hr4
            have HI4 := hide hi4
            have HE4 := hide (HE3.out.keep hb4)
            have HE04 := hide (HE0.out.keep hb4)
            have HB5 := hide (btrans HB4.out hb4)
            have HKW := hide hb4
            clear h4 hi4 hb4 hr4 HE3 HE0 HB4
            go_wp2_with fail
            refine (rkRanks_any N (up2 E3) _ _ (HE4.out.keep ((Below.refl _ _).alloc (Nat.le_refl _) _)) (fun _ => HNN.out)).mono ?_
            intro e w5 h5
            obtain ⟨a5, c5, o5, F5, rfl, hi5, hb5, hr5, -⟩ := h5.two hg3
            obtain ⟨e1, e2⟩ := HR4.out.one hr5 HMem.out
            subst e1 e2
            have kb : Below w4.heap.size w4 w5 := btrans ((Below.refl _ _).alloc (Nat.le_refl _) _) hb5
            have y14 : w5.cell? ⟨w4.heap.size, 0, none⟩ = some (.int .i64 F4.1) := bsome hb5 (by simp [go_sem])
            have y14' : w5.cell? ⟨w4.heap.size, 1, none⟩ = some (.int .i64 F4.2) := bsome hb5 (by simp [go_sem])
            have HI4' := hide (HI4.out.keep kb)
            have HI5 := hide hi5
            have HE5 := hide (HE4.out.keep kb)
            have HE05 := hide (HE04.out.keep kb)
            have HB6 := hide (btrans HB5.out kb)
            have HKW' := hide (btrans HKW.out kb)
            clear h5 hi5 hb5 hr5 kb HE4 HE04 HI4 HB5 HKW
            go_wp2_with fail
            refine (rkRound_any N (up2 E) _ _ (HE05.out.keep ((Below.refl _ _).alloc (Nat.le_refl _) _)) (fun _ => HNN.out)).mono ?_
            intro e w6 h6
            obtain ⟨a6, c6, o6, rfl, hi6, hb6, hr6⟩ := h6.two hg1
            have kb : Below w5.heap.size w5 w6 := btrans ((Below.refl _ _).alloc (Nat.le_refl _) _) hb6
            have z14 := bsome kb y14
            have z14' := bsome kb y14'
            have z16 : w6.cell? ⟨w5.heap.size, 0, none⟩ = some (.int .i64 F4.1) := bsome hb6 (by simp [go_sem])
            have z16' : w6.cell? ⟨w5.heap.size, 1, none⟩ = some (.int .i64 F4.2) := bsome hb6 (by simp [go_sem])
            have HR6 := hide hr6
            have HI6 := hide hi6
            have HI4 := hide (HI4'.out.keep kb)
            have HI5' := hide (HI5.out.keep kb)
            have HE6 := hide (HE5.out.keep kb)
            have HB7 := hide (btrans HB6.out kb)
            have HKW := hide (btrans HKW'.out kb)
            clear h6 hi6 hb6 hr6 kb HE5 HE05 HI4' HI5 HB6 HKW' y14 y14'
            go_wp2_with fail
            refine (rkRound_any N (up2 E3) _ _ (HE6.out.keep ((Below.refl _ _).alloc (Nat.le_refl _) _)) (fun _ => HNN.out)).mono ?_
            intro e w7 h7
            obtain ⟨a7, c7, o7, rfl, hi7, hb7, hr7⟩ := h7.two hg3
            have e3 := (HR6.out.congr HMem.out).one hr7
            subst e3
            have kb : Below w6.heap.size w6 w7 := btrans ((Below.refl _ _).alloc (Nat.le_refl _) _) hb7
            have y14 := bsome kb z14
            have y14' := bsome kb z14'
            have y16 := bsome kb z16
            have y16' := bsome kb z16'
            have HI7 := hide hi7
            have HI6' := hide (HI6.out.keep kb)
            have HI4' := hide (HI4.out.keep kb)
            have HI5 := hide (HI5'.out.keep kb)
            have HB8 := hide (btrans HB7.out kb)
            have HKW' := hide (btrans HKW.out kb)
            have hl4 := HR4.out.len
            have hl6 := HR6.out.le HIn.out
            have hb14 := World.block_lt_of_cell? _ _ y14
            have hb16 := World.block_lt_of_cell? _ _ y16
            clear h7 hi7 hb7 hr7 kb HE6 HI4 HI5' HI6 HB7 HKW z14 z14' z16 z16'
            go_wp2_with fail
            refine (same_any (up o4) _ _ _ (by rw [up_len]; omega) (HI4'.out.keep ((Below.refl _ _).alloc (Nat.le_refl _) _)) (HI5.out.keep ((Below.refl _ _).alloc (Nat.le_refl _) _))).mono ?_
            rintro e w8 ⟨rfl, hb8⟩
            have kb : Below w7.heap.size w7 w8 := btrans ((Below.refl _ _).alloc (Nat.le_refl _) _) hb8
            have z14 := bsome kb y14
            have z14' := bsome kb y14'
            have HI4 := hide (HI4'.out.keep kb)
            have HI6 := hide (HI6'.out.keep kb)
            have HI7' := hide (HI7.out.keep kb)
            have HB9 := hide (btrans HB8.out kb)
            have HKW := hide (btrans HKW'.out kb)
            clear hb8 kb HI5 HI4' HI6' HI7 HB8 HKW' y14 y14' y16 y16' hb14 hb16
            go_wp2_with fail
            refine (same_any (up o6) _ _ _ (by rw [up_len]; omega) HI6.out HI7'.out).mono ?_
            rintro e w9 ⟨rfl, hb9⟩
            have y14 := bsome hb9 z14
            have y14' := bsome hb9 z14'
            have HI4' := hide (HI4.out.keep hb9)
            have HB10 := hide (btrans HB9.out hb9)
            have HKW' := hide (btrans HKW.out hb9)
            clear hb9 HI4 HI6 HI7' HB9 HKW z14 z14'
            have hn0 : 0 < N := by omega
            obtain ⟨qa, hqa, hqa'⟩ := kpick xa N hn0 (by omega)
            obtain ⟨qb, hqb, hqb'⟩ := kpick xb N hn0 (by omega)
            have HWA : Hid (WA.heap.size ≤ W0.heap.size) := HSZ
            have hpa : IntKind.i64.wrap ((IntKind.u64.wrap xa).tmod (N : Int)) = (qa : Int) := by rw [IntKind.wrap_i64]; have h9 := hqa'; unfold wrap64 at h9; exact h9
            have hpb : IntKind.i64.wrap ((IntKind.u64.wrap xb).tmod (N : Int)) = (qb : Int) := by rw [IntKind.wrap_i64]; have h9 := hqb'; unfold wrap64 at h9; exact h9
            have hwn : IntKind.u64.wrap (N : Int) = (N : Int) := by rw [IntKind.wrap_u64]; omega
            have hnz : ¬ (N : Int) = 0 := by omega
            have hnz' : ¬ N = 0 := by omega
            have HO9 : Hid (w9.ownsRow WA.heap.size 30 2 (.slice ao E3.length co) E3.length (ecells (up2 E3))) := hide (own_keepE HOW.out (fun g hg => HKW'.out.block g (HOW.out.lt g hg).2))
            have hw9 : WA.heap.size ≤ w9.heap.size := by have := HKW'.out.size; have := HWA.out; omega
            go_wp2_with fail
            go_region_law ((refine step_append_lies _ rfl _ _ 22 rfl WA.heap.size 30 i0 (.agg #[.int .i64 0, .int .i64 0]) 2 16 Try.underlying22 hi0 hz0 hz1 hz2 rfl (by decide) (.slice ao E3.length co) E3.length (ecells (up2 E3)) (by rfl) (by exact (own_keepE (w' := w9.drew) HO9.out (fun _ _ => rfl)).alloc _) ⟨w9.heap.size, 0, none⟩ 1 1 [.int .i64 qa, .int .i64 qb] (by rfl) rfl (fun j u hu => by exact cell_two_new w9 _ _ _ j u hu) (by intro u hu; simp at hu; rcases hu with rfl | rfl <;> rfl) (by decide) (by unfold maxLen; omega) (by omega) (by simp; omega) _ rfl ?_; intro g2 cap2 wm hown hgrow hat hlt2; have HOM := hide hown; have HGM := hide hgrow; clear hown hgrow hat))
            have hsz9 := HKW'.out.size
            have hrow : ∀ g, (Value.slice ao E3.length co).ownBlock = some g → g < W0.heap.size := fun g hg => (HOW.out.lt g hg).2
            have ka : Below w9.heap.size w9 (w9.alloc (.cells #[.int .i64 qa, .int .i64 qb] 30)).drew := below_drewN ((Below.refl _ _).alloc (Nat.le_refl _) _) 1
            have zm : ∀ (b o : Nat) (u : Value), W0.heap.size ≤ b → w9.cell? ⟨b, o, none⟩ = some u → wm.cell? ⟨b, o, none⟩ = some u := fun b o u hb hu => HGM.out.cell (bsome ka hu) (fun e => by have := hrow b e.symm; omega)
            have z14 := zm _ _ _ hs04 y14
            have z14' := zm _ _ _ hs04 y14'
            have HI4 : Hid (IR wm (.slice a4 o4.length c4) (up o4)) := hide (by
              obtain ⟨a', c', e9, h9⟩ := HI4'.out
              refine ⟨a', c', e9, fun hne => ?_⟩
              obtain ⟨g, o, rfl, q⟩ := h9 hne
              have e10 : a4 = some ⟨g, o, none⟩ := by simpa using (Value.slice.inj e9).1
              have hfr := HF4.out _ e10
              exact ⟨g, o, rfl, fun j x hx => zm _ _ _ hfr (q j x hx)⟩)
            obtain ⟨E4, hE4⟩ : ∃ E4 : Rk.Eg, E3 ++ [(qa, qb)] = E4 := ⟨_, rfl⟩
            have hl4' : E4.length = E3.length + 1 := by rw [← hE4]; simp
            have HIn4 : Hid (Rk.In N E4) := hide (fun e he => by
              rw [← hE4] at he
              rcases List.mem_append.1 he with h | h
              · exact HIn3.out e h
              · obtain rfl : e = (qa, qb) := by simpa using h
                exact ⟨hqa, hqb⟩)
            have hg4 := gfl_in (N := N) (E := E4) (by omega) HIn4.out (by omega)
            have HSub : Hid (∀ e ∈ E, e ∈ E4) := hide (fun e he => by rw [← hE4]; exact List.mem_append.2 (.inl ((HMem.out e).1 he)))
            have HEm : Hid (ER wm (.slice (some ⟨g2, 0, none⟩) (E3.length + 1) cap2) (up2 E4)) := hide (by
              have h9 := own_er (L := up2 E4) (v := .slice (some ⟨g2, 0, none⟩) (E3.length + 1) cap2) (w := wm) (B := WA.heap.size) (by
                rw [up2_len, hl4', ← hE4, up2_app, ecells_app]
                exact HOM.out)
              exact h9)
            have hbw : w.heap.size ≤ W0.heap.size := HB0.out
            have HBm : Hid (Below w.heap.size w wm) := hide ((btrans HB10.out ka).grown HGM.out (by have := HB10.out.size; simp; omega) (fun j hj => by have := (HOW.out.lt j hj).1; have := HWw.out; omega))
            clear zm ka hrow HGM HOM HI4' HB10 HKW' HO9 y14 y14' hE4 HMem HIn3 HOW
            go_wp2_with fail
            refine (rkRanks_any N (up2 E4) _ _ HEm.out (fun _ => HNN.out)).mono ?_
            intro e w10 h10
            obtain ⟨a10, c10, o10, F10, rfl, hi10, hb10, hr10, -⟩ := h10.two hg4
            have y14 := bsome hb10 z14
            have y14' := bsome hb10 z14'
            have HR10 := hide hr10
            have HI10 := hide hi10
            have HI4' := hide (HI4.out.keep hb10)
            have HE10 := hide (HEm.out.keep hb10)
            have HB11 := hide (btrans HBm.out hb10)
            clear h10 hi10 hb10 hr10 z14 z14' HI4 HEm HBm
            go_wp2_with fail
            refine (rkRound_any N (up2 E4) _ _ (HE10.out.keep ((Below.refl _ _).alloc (Nat.le_refl _) _)) (fun _ => HNN.out)).mono ?_
            intro e w11 h11
            obtain ⟨a11, c11, o11, rfl, hi11, hb11, hr11⟩ := h11.two hg4
            have kb : Below w10.heap.size w10 w11 := btrans ((Below.refl _ _).alloc (Nat.le_refl _) _) hb11
            have z14 := bsome kb y14
            have z14' := bsome kb y14'
            have z23 : w11.cell? ⟨w10.heap.size, 0, none⟩ = some (.int .i64 F10.1) := bsome hb11 (by simp [go_sem])
            have z23' : w11.cell? ⟨w10.heap.size, 1, none⟩ = some (.int .i64 F10.2) := bsome hb11 (by simp [go_sem])
            have HR11 := hide hr11
            have HI10' := hide (HI10.out.keep kb)
            have HI4 := hide (HI4'.out.keep kb)
            have HB12 := hide (btrans HB11.out kb)
            have hb14 := World.block_lt_of_cell? _ _ z14
            have hb23 := World.block_lt_of_cell? _ _ z23
            have hl11 := HR11.out.le HIn4.out
            clear h11 hi11 hb11 hr11 kb y14 y14' HI10 HI4' HE10 HB11
            rcases HR4.out with ⟨rfl, hk4, hr4⟩ | ⟨rfl, rfl, hcy⟩
            · rcases HR10.out with ⟨rfl, hk10, hr10⟩ | ⟨rfl, rfl, hcy⟩
              · have HUP := hide (fun (v : Nat) (hv : v < N) => hr4.higher hr10 HSub.out hv)
                clear hr4 hr10 HR4 HR10
                go_wp2
                obtain ⟨W, hW⟩ : ∃ W, w11.alloc (.cells #[.int .i64 0, .int .i64 0] 25) = W := ⟨_, rfl⟩
                have kb : Below w11.heap.size w11 W := by rw [← hW]; exact (Below.refl _ _).alloc (Nat.le_refl _) _
                have HIA := hide (HI10'.out.keep kb)
                have HIB := hide (HI4.out.keep kb)
                have HBW := hide (btrans HB12.out kb)
                rw [hW]
                clear kb hW HI10' HI4
                go_loopw [26] (fun iv wr => ∃ i m : Nat, i ≤ N ∧ iv = .int .i64 i ∧ wr = W.drewN m) (fun iv _ => N - (intOf iv).toNat)
                case atStart => exact ⟨0, 0, Nat.zero_le _, rfl, rfl⟩
                case round =>
                  obtain ⟨i, m, hi, rfl, rfl⟩ := hrel
                  by_cases hlt : i < N
                  · have d5 : decide ((i : Int) < (N : Int)) = true := by simp; omega
                    obtain ⟨aA, cA, eA, hA⟩ := HIA.out
                    obtain ⟨rfl, -, rfl⟩ : a10 = aA ∧ True ∧ c10 = cA := by rw [up_len] at eA; simpa using eA
                    obtain ⟨gA, oA, rfl, qA⟩ := hA (fun e => by have := congrArg List.length e; rw [up_len, List.length_nil] at this; omega)
                    obtain ⟨aB, cB, eB, hB⟩ := HIB.out
                    obtain ⟨rfl, -, rfl⟩ : a4 = aB ∧ True ∧ c4 = cB := by rw [up_len] at eB; simpa using eB
                    obtain ⟨gB, oB, rfl, qB⟩ := hB (fun e => by have := congrArg List.length e; rw [up_len, List.length_nil] at this; omega)
                    have cA := qA i _ (up_g (o := o10) (v := i) (by omega))
                    have cB := qB i _ (up_g (o := o4) (v := i) (by omega))
                    have hle := HUP.out i hlt
                    have d6 : decide (((Rk.g o10 i : Nat) : Int) < ((Rk.g o4 i : Nat) : Int)) = false := by simp; omega
                    have d6' : decide (Rk.g o10 i < Rk.g o4 i) = false := by simp; omega
                    have i1 : (0 : Int) ≤ (i : Int) := by omega
                    have i2 : (i : Int) < (o10.length : Int) := by omega
                    have i3 : (i : Int) < (o4.length : Int) := by omega
                    clear qA qB hA hB eA eB hle
                    go_wp2
                    go_quiet (fail)
                    go_wp2
                    go_roundw
                    case rel => exact ⟨i + 1, _, by omega, by go_num, rfl⟩
                    case measure => simp [intOf]; omega
                  · obtain rfl : i = N := by omega
                    have d5 : decide ((i : Int) < (i : Int)) = false := by simp
                    go_wp2
                    go_ret
                    exact ⟨rfl, btrans HBW.out (below_drewN (Below.refl _ _) _)⟩
              · have hpos := HR11.out.pos hcy
                have d7 : (0 : Int) < (o11.length : Int) := by omega
                clear hcy
                go_wp2
                go_ret
                exact ⟨rfl, HB12.out.alloc (by have := HB12.out.size; omega) _⟩
            · have hcy4 := hcy.sub HSub.out
              have hF10 : F10 = (17, -1) := by
                rcases HR10.out with ⟨-, -, h⟩ | ⟨h, -, -⟩
                · exact absurd hcy4 h.acyc
                · exact h
              subst hF10
              have hpos := HR11.out.pos hcy4
              have hsh := HR6.out.shorter HR11.out HSub.out hcy
              have d7 : (0 : Int) < (o11.length : Int) := by omega
              have d8 : (o11.length : Int) ≤ (o6.length : Int) := by omega
              clear hcy hcy4
              go_wp2
              go_ret
              exact ⟨rfl, HB12.out.alloc (by have := HB12.out.size; omega) _⟩
end Go.Proofs.Ytibhbbgpeckkfaa

import Derived.Test.YtfngmdebmedkjaePthI
/- The search, whole: its walk. -/
namespace Go.Proofs.Ytfngmdebmedkjae
open Go.RowKit

theorem own_form {w : World} {B : Nat} {v : Value} {l : List Int} (h : w.ownsRow B 3 1 v l.length (ints l)) (hp : 0 < l.length) : ∃ g cap, v = .slice (some ⟨g, 0, none⟩) l.length cap ∧ ∀ (k : Nat) x, l[k]? = some x → w.cell? ⟨g, k, none⟩ = some (.int .i64 x) := by
  obtain ⟨g, cap, hv, -, -⟩ := h.form hp
  refine ⟨g, cap, hv, fun k x hx => ?_⟩
  have := h.cells (g := g) (by rw [hv]; rfl) k (.int .i64 x) (by simp [ints, hx])
  rw [add_off] at this
  exact this
theorem own_first (w : World) (x : Value) : (w.alloc (.cells #[x] 3)).ownsRow w.heap.size 3 1 (.slice (some ⟨w.heap.size, 0, none⟩) 1 1) 1 [x] :=
  ⟨by simp, .inr ⟨w.heap.size, 1, #[x], rfl, Nat.le_refl _, heap_alloc_new w _, Nat.le_refl _, by simp [maxLen], by simp, by simp⟩⟩
theorem Inv.pos {nx : Nat → List Nat} {n a : Nat} {ah : List Int} {ln : List Nat} {k : Nat} {d : List Nat} {g : Nat → List Nat} (h : Pa.Inv nx n a ah ln k d g) : 0 < ln.length := (List.getElem?_eq_some_iff.1 h.z).1

set_option maxRecDepth 100000 in
set_option maxHeartbeats 2000000 in
theorem spread_any (c : Cp) (i : Int) (w : World) (h : PM c w) :
    Calls Try.prog 14 #[c.v, .int .i64 i] w fun e w' => ∃ (ga ca : Nat) (ah : List Int), e = .returned (.slice (some ⟨ga, 0, none⟩) c.p.length ca) ∧ (∀ (k : Nat) x, ah[k]? = some x → w'.cell? ⟨ga, k, none⟩ = some (.int .i64 x)) ∧ SPR c.p i ah ∧ Below w.heap.size w w' := by
  have hfew := h.few
  obtain ⟨Z, hZ, mk⟩ := make_ints c.p.length hfew
  have mf := fun (fn : Fn) (first cap : Array Value) (w : World) => (rfl : (Instr.makeFunc fn first cap).run Try.prog w = .ok (.func fn first cap) w)
  have HZ := hide hZ
  have HM := hide h
  have HI := hide (fun w' => isIns_any c i w')
  have HG : Hid (c.p ≠ [] → c.g < w.heap.size) := hide (fun hne => by
    obtain ⟨x, hx⟩ : ∃ x, c.p[0]? = some x := ⟨_, List.getElem?_eq_getElem (List.length_pos_iff.2 hne)⟩
    obtain ⟨u1, u2, u3, u5, a6, n6, c6, a7, n7, c7, u8, u9, u10, h0, -⟩ := h.row 0 x hx
    exact World.block_lt_of_cell? _ _ h0)
  have HOW := hide (fun (u : Int) (p1 p2 p3 : Value) I HC X w' hm hi => onwardS c u p1 p2 p3 I HC X w' hm hi)
  clear hZ h
  have hv : c.v = .agg #[c.nm, c.vs, c.pr, c.bl, .slice c.a c.p.length c.c] := rfl
  rw [hv] at HI HOW ⊢
  clear hv
  go_enter Try.func14, Try.ntmps14
  go_wp2
  have HB2 : Hid (Below w.heap.size w (((w.alloc (.cells #[c.nm, c.vs, c.pr, c.bl, .slice c.a c.p.length c.c] 26)).alloc (.cells Z 3)).alloc (.cells #[.slice (some ⟨w.heap.size + 1, 0, none⟩) c.p.length c.p.length] 30))) := hide ((((Below.refl _ _).alloc (Nat.le_refl _) _).alloc (by simp) _).alloc (by simp; omega) _)
  have HA2 : Hid (AR (w.heap.size + 1) (((w.alloc (.cells #[c.nm, c.vs, c.pr, c.bl, .slice c.a c.p.length c.c] 26)).alloc (.cells Z 3)).alloc (.cells #[.slice (some ⟨w.heap.size + 1, 0, none⟩) c.p.length c.p.length] 30)) (List.replicate c.p.length 0)) := by
    have h1 := ar_new (w.alloc (.cells #[c.nm, c.vs, c.pr, c.bl, .slice c.a c.p.length c.c] 26)) Z c.p.length HZ.out
    have h2 : w.heap.size + 1 = (w.alloc (.cells #[c.nm, c.vs, c.pr, c.bl, .slice c.a c.p.length c.c] 26)).heap.size := by simp
    rw [h2]
    exact h1.below ((Below.refl _ _).alloc (Nat.le_refl _) _)
  have x0 : (((w.alloc (.cells #[c.nm, c.vs, c.pr, c.bl, .slice c.a c.p.length c.c] 26)).alloc (.cells Z 3)).alloc (.cells #[.slice (some ⟨w.heap.size + 1, 0, none⟩) c.p.length c.p.length] 30)).cell? ⟨w.heap.size, 0, none⟩ = some c.nm := by simp [go_sem]
  have x1 : (((w.alloc (.cells #[c.nm, c.vs, c.pr, c.bl, .slice c.a c.p.length c.c] 26)).alloc (.cells Z 3)).alloc (.cells #[.slice (some ⟨w.heap.size + 1, 0, none⟩) c.p.length c.p.length] 30)).cell? ⟨w.heap.size, 1, none⟩ = some c.vs := by simp [go_sem]
  have x2 : (((w.alloc (.cells #[c.nm, c.vs, c.pr, c.bl, .slice c.a c.p.length c.c] 26)).alloc (.cells Z 3)).alloc (.cells #[.slice (some ⟨w.heap.size + 1, 0, none⟩) c.p.length c.p.length] 30)).cell? ⟨w.heap.size, 2, none⟩ = some c.pr := by simp [go_sem]
  have x3 : (((w.alloc (.cells #[c.nm, c.vs, c.pr, c.bl, .slice c.a c.p.length c.c] 26)).alloc (.cells Z 3)).alloc (.cells #[.slice (some ⟨w.heap.size + 1, 0, none⟩) c.p.length c.p.length] 30)).cell? ⟨w.heap.size, 3, none⟩ = some c.bl := by simp [go_sem]
  have x4 : (((w.alloc (.cells #[c.nm, c.vs, c.pr, c.bl, .slice c.a c.p.length c.c] 26)).alloc (.cells Z 3)).alloc (.cells #[.slice (some ⟨w.heap.size + 1, 0, none⟩) c.p.length c.p.length] 30)).cell? ⟨w.heap.size, 4, none⟩ = some (.slice c.a c.p.length c.c) := by simp [go_sem]
  have x5 : (((w.alloc (.cells #[c.nm, c.vs, c.pr, c.bl, .slice c.a c.p.length c.c] 26)).alloc (.cells Z 3)).alloc (.cells #[.slice (some ⟨w.heap.size + 1, 0, none⟩) c.p.length c.p.length] 30)).cell? ⟨w.heap.size + 1 + 1, 0, none⟩ = some (.slice (some ⟨w.heap.size + 1, 0, none⟩) c.p.length c.p.length) := by simp [go_sem]
  have hsz : (((w.alloc (.cells #[c.nm, c.vs, c.pr, c.bl, .slice c.a c.p.length c.c] 26)).alloc (.cells Z 3)).alloc (.cells #[.slice (some ⟨w.heap.size + 1, 0, none⟩) c.p.length c.p.length] 30)).heap.size = w.heap.size + 1 + 1 + 1 := by simp
  generalize ((w.alloc (.cells #[c.nm, c.vs, c.pr, c.bl, .slice c.a c.p.length c.c] 26)).alloc (.cells Z 3)).alloc (.cells #[.slice (some ⟨w.heap.size + 1, 0, none⟩) c.p.length c.p.length] 30) = w2 at *
  have HSZ := hide hsz
  clear hsz HZ mk
  go_loopw [16] (fun iv wr => ∃ k : Nat, k ≤ c.p.length ∧ iv = .int .i64 k ∧ Hid (AR (w.heap.size + 1) wr (fil c.p.length k)) ∧ Hid (Kx (fun b => b ≠ w.heap.size + 1) w2 wr)) (fun iv _ => c.p.length - (intOf iv).toNat)
  case atStart => exact ⟨0, Nat.zero_le _, rfl, hide (by unfold fil; simpa using HA2.out), hide (Kx.refl _ _)⟩
  case round =>
    obtain ⟨k, hk, rfl, HA, HK⟩ := hrel
    have y5 := HK.out.cell x5 (by dsimp only; omega)
    by_cases hlt : k < c.p.length
    · have c0 := HA.out.cell k 0 (fil_get hlt)
      have f0 := HA.out.thaw k
      have RA := hide (HA.out.set (fil_get hlt) (-1))
      rw [fil_set hlt] at RA
      have RK := hide (HK.out.set (p := ⟨w.heap.size + 1, k, none⟩) (.inr (fun e => e rfl)) (.int .i64 (-1)))
      clear HA HK
      go_wp2
      go_roundw
      case rel => exact ⟨k + 1, by omega, by go_num, RA, RK⟩
      case measure => simp [intOf]; omega
    · obtain rfl : k = c.p.length := by omega
      rw [fil_all] at HA
      have y0 := HK.out.cell x0 (by dsimp only; omega)
      have y1 := HK.out.cell x1 (by dsimp only; omega)
      have y2 := HK.out.cell x2 (by dsimp only; omega)
      have y3 := HK.out.cell x3 (by dsimp only; omega)
      have y4 := HK.out.cell x4 (by dsimp only; omega)
      have HBr : Hid (Below w.heap.size w wr) := hide (((Kx.of_below (X := fun b => b < w.heap.size) HB2.out).trans (HK.out.mono (fun b _ hb => by omega))).below_of (fun b hb => hb))
      have hszr : w.heap.size + 1 + 1 < wr.heap.size := by have := HK.out.size; have := HSZ.out; omega
      clear x0 x1 x2 x3 x4 x5 HB2 HA2 HSZ HK
      go_wp2_with fail
      refine (HI.out _).mono ?_
      rintro e w3 ⟨rfl, hb3⟩
      have HB3 := hide (btrans HBr.out hb3)
      have HA3 := hide (HA.out.below hb3)
      have z0 := bsome hb3 y0
      have z1 := bsome hb3 y1
      have z2 := bsome hb3 y2
      have z3 := bsome hb3 y3
      have z4 := bsome hb3 y4
      have z5 := bsome hb3 y5
      have hsz3 : w.heap.size + 1 + 1 < w3.heap.size := by have := hb3.size; omega
      clear hb3 y0 y1 y2 y3 y4 y5 HA HBr HI
      cases hq : Pa.isI c.p i with
      | false =>
        go_wp2
        go_ret
        refine ⟨w.heap.size + 1, c.p.length, _, rfl, HA3.out.cell, ⟨by simp, fun _ k x hx => ?_, fun a ha hn => ?_⟩, HB3.out⟩
        · rw [List.getElem?_replicate] at hx
          split at hx
          · exact (Option.some.inj hx).symm
          · cases hx
        · rw [ha, Pa.isI_iff.2 ⟨by omega, by omega⟩] at hq
          cases hq
      | true =>
        obtain ⟨i1, i2⟩ := Pa.isI_iff.1 hq
        obtain ⟨s, rfl⟩ : ∃ s : Nat, i = (s : Int) := ⟨i.toNat, by omega⟩
        have hsn : s < c.p.length := by omega
        have hrep : (List.replicate c.p.length (-1 : Int))[s]? = some (-1) := by rw [List.getElem?_replicate, if_pos hsn]
        have c0 := HA3.out.cell s _ hrep
        have f0 := HA3.out.thaw s
        have RA := hide (HA3.out.set hrep (s : Int))
        clear hrep HA3
        have K5 : Hid (Kx (fun b => b < w3.heap.size ∧ b ≠ w.heap.size + 1) w3 (((w3.setCell ⟨w.heap.size + 1, s, none⟩ (.int .i64 (s : Int))).alloc (.cells #[.int .i64 (s : Int)] 3)).alloc (.cells #[.slice (some ⟨w3.heap.size, 0, none⟩) 1 1] 30))) := hide ((((Kx.refl (fun b => b < w3.heap.size ∧ b ≠ w.heap.size + 1) w3).set (p := ⟨w.heap.size + 1, s, none⟩) (.inr (fun e => e.2 rfl)) _).alloc _).alloc _)
        have SM5 : Hid (SM w3.heap.size (w.heap.size + 1) (w.heap.size + 1 + 1) (w3.heap.size + 1) c.p.length c.p.length (fun b => b < w3.heap.size ∧ b ≠ w.heap.size + 1) (((w3.setCell ⟨w.heap.size + 1, s, none⟩ (.int .i64 (s : Int))).alloc (.cells #[.int .i64 (s : Int)] 3)).alloc (.cells #[.slice (some ⟨w3.heap.size, 0, none⟩) 1 1] 30)) ((List.replicate c.p.length (-1)).set s (s : Int)) [s] (.slice (some ⟨w3.heap.size, 0, none⟩) 1 1)) := by
          refine hide ⟨K5.out.cell z5 ⟨by dsimp only; omega, by dsimp only; omega⟩, RA.out.below (((Below.refl _ _).alloc (Nat.le_refl _) _).alloc (by simp) _), by simp, ⟨by simp [go_sem], by simp [go_sem], ?_, by simp; omega, ?_, fun g hg => ?_, fun k hk => ?_⟩, fun e => e.2 rfl, by omega⟩
          · have h1 : (w3.setCell ⟨w.heap.size + 1, s, none⟩ (.int .i64 (s : Int))).heap.size = w3.heap.size := by simp
            have := own_first (w3.setCell ⟨w.heap.size + 1, s, none⟩ (.int .i64 (s : Int))) (.int .i64 (s : Int))
            rw [h1] at this
            exact this.alloc _
          · rintro (hx | hx | hx) <;> omega
          · have e : g = w3.heap.size := by simpa [Value.ownBlock] using hg.symm
            subst e
            refine ⟨?_, by omega⟩
            rintro (hx | hx | hx) <;> omega
          · simp
            rcases hk with hx | hx | hx <;> omega
        go_wp2
        have v0 := K5.out.cell z0 ⟨by dsimp only; omega, by dsimp only; omega⟩
        have v1 := K5.out.cell z1 ⟨by dsimp only; omega, by dsimp only; omega⟩
        have v2 := K5.out.cell z2 ⟨by dsimp only; omega, by dsimp only; omega⟩
        have v3 := K5.out.cell z3 ⟨by dsimp only; omega, by dsimp only; omega⟩
        have v4 := K5.out.cell z4 ⟨by dsimp only; omega, by dsimp only; omega⟩
        have hXw : Hid (∀ b, b < w.heap.size → b < w3.heap.size ∧ b ≠ w.heap.size + 1) := hide (fun b hb => ⟨by omega, by omega⟩)
        have hcg := HG.out (by intro e; rw [e] at hsn; simp at hsn)
        have PM5 : Hid (PM c (((w3.setCell ⟨w.heap.size + 1, s, none⟩ (.int .i64 (s : Int))).alloc (.cells #[.int .i64 (s : Int)] 3)).alloc (.cells #[.slice (some ⟨w3.heap.size, 0, none⟩) 1 1] 30))) := hide ((HM.out.keep HB3.out).keepX K5.out (hXw.out _ hcg))
        have BK5 : Hid (Kx (fun b => b < w.heap.size) w (((w3.setCell ⟨w.heap.size + 1, s, none⟩ (.int .i64 (s : Int))).alloc (.cells #[.int .i64 (s : Int)] 3)).alloc (.cells #[.slice (some ⟨w3.heap.size, 0, none⟩) 1 1] 30))) := hide ((Kx.of_below HB3.out).trans (K5.out.mono (fun b _ hb => hXw.out b hb)))
        clear K5 HB3 RA c0 f0 z0 z1 z2 z3 z4 z5
        generalize (((w3.setCell ⟨w.heap.size + 1, s, none⟩ (.int .i64 (s : Int))).alloc (.cells #[.int .i64 (s : Int)] 3)).alloc (.cells #[.slice (some ⟨w3.heap.size, 0, none⟩) 1 1] 30)) = w5 at *
        generalize hXe : (fun b => b < w3.heap.size ∧ b ≠ w.heap.size + 1) = X at *
        have XH : X w.heap.size := by rw [← hXe]; exact ⟨by omega, by omega⟩
        have HXw : Hid (∀ b, b < w.heap.size → X b) := hide (fun b hb => by rw [← hXe]; exact hXw.out b hb)
        clear hXe hXw
        have HXH := hide XH
        clear XH
        go_loopw [8] (fun kv wr => ∃ (k : Nat) (ah : List Int) (ln : List Nat) (g : Nat → List Nat) (v : Value), kv = .int .i64 k ∧ k ≤ ln.length ∧ Hid (Pa.Inv (nxp c.p) c.p.length s ah ln k [] g) ∧ Hid (SM w3.heap.size (w.heap.size + 1) (w.heap.size + 1 + 1) (w3.heap.size + 1) c.p.length c.p.length X wr ah ln v) ∧ Hid (Kx X w5 wr)) (fun kv _ => 301 - (intOf kv).toNat)
        case atStart => exact ⟨0, _, _, _, _, rfl, by simp, hide (Pa.Inv.start hsn), SM5, hide (Kx.refl _ _)⟩
        case round =>
          obtain ⟨k, ah, ln, g, v, rfl, hkl, HI, HS, HK⟩ := hrel
          have hfl := HI.out.few
          obtain ⟨g', cap', rfl, hcells⟩ := own_form HS.out.vr.own (by rw [up_len]; exact Inv.pos HI.out)
          have b0 := HS.out.vr.cell
          rw [up_len] at b0
          have b1 := HS.out.av
          by_cases hlt : k < ln.length
          · obtain ⟨u, hu⟩ : ∃ u, ln[k]? = some u := ⟨_, List.getElem?_eq_getElem hlt⟩
            have b2 := hcells k _ (up_get hu)
            have r0 := HK.out.cell v0 HXH.out
            have r1 := HK.out.cell v1 HXH.out
            have r2 := HK.out.cell v2 HXH.out
            have r3 := HK.out.cell v3 HXH.out
            have r4 := HK.out.cell v4 HXH.out
            have hwl := World.block_lt_of_cell? _ _ r0
            have PMr : Hid (PM c (wr.alloc (.cells #[.int .i64 (u : Int)] 3))) := hide ((PM5.out.keepX HK.out (HXw.out _ hcg)).keep ((Below.refl _ _).alloc (Nat.le_refl _) _))
            have SIr : Hid (SI (nxp c.p) w3.heap.size (w.heap.size + 1) (w.heap.size + 1 + 1) wr.heap.size (w3.heap.size + 1) c.p.length c.p.length s k u X (wr.alloc (.cells #[.int .i64 (u : Int)] 3)) []) := by
              refine hide ⟨ah, ln, g, _, HI.out, hu, (HS.out.grow ((Below.refl _ _).alloc (Nat.le_refl _) _)).less (fun b hb => ?_), by simp [go_sem]⟩
              rcases hb with hb | hb
              · exact .inl hb
              · exact .inr ⟨by omega, by simp; omega⟩
            clear hcells hu
            go_wp2_with fail
            refine (HOW.out u _ _ _ (SI (nxp c.p) w3.heap.size (w.heap.size + 1) (w.heap.size + 1 + 1) wr.heap.size (w3.heap.size + 1) c.p.length c.p.length s k u) (hide (clo_spread (nxp c.p) c.p.length (fun i v hv => Pa.on_lt hv) (fun i => Pa.on_sorted _ _) _ _ _ _ _ _ _ _ _ hfew)) X _ PMr.out SIr.out).mono ?_
            rintro e w7 ⟨rfl, ⟨ah', ln', g2, v', hi', hu', hs', -⟩, hk7⟩
            have R1 := hide (Pa.Inv.next hu' hi')
            have R2 := hide (hs'.less (Y := X) (fun b hb => .inl hb))
            have R3 : Hid (Kx X w5 w7) := hide ((HK.out.alloc _).trans hk7)
            have R4 : k + 1 ≤ ln'.length := (List.getElem?_eq_some_iff.1 hu').1
            clear hi' hu' hs' hk7 HI HS HK
            go_wp2
            go_roundw
            case rel => exact ⟨k + 1, _, _, _, _, by go_num, R4, R1, R2, R3⟩
            case measure => simp [intOf]; omega
          · obtain rfl : k = ln.length := by omega
            have R : Hid (Below w.heap.size w wr) := hide ((BK5.out.trans (HK.out.mono (fun b _ hb => HXw.out b hb))).below_of (fun b hb => hb))
            clear hcells
            go_wp2
            go_ret
            refine ⟨w.heap.size + 1, c.p.length, ah, rfl, HS.out.ar.cell, ⟨HS.out.len, fun e => ?_, fun a ha _ => ?_⟩, R.out⟩
            · rw [hq] at e; cases e
            · obtain rfl : s = a := by omega
              exact ⟨ln, g, HI.out⟩
end Go.Proofs.Ytfngmdebmedkjae

import Derived.Test.YtibhbbgpeckkfaaRnkAc
import Derived.Test.YtibhbbgpeckkfaaRnkY
import Derived.Test.YtibhbbgpeckkfaaRnkN
/- Package ranks: Ranks and Round, whole. -/
namespace Go.Proofs.Ytibhbbgpeckkfaa
open Go.RowKit

set_option maxRecDepth 100000 in
set_option maxHeartbeats 2000000 in
theorem newGraph_none (N : Nat) (a0 : Option Addr) (c0 : Nat) (w : World) (hn : N ≤ 300) :
    Calls Try.prog 17 #[.int .i64 N, .slice a0 0 c0] w fun e w' => ∃ gv A, e = .returned gv ∧ Rk.Adj N [] A ∧ GR w' gv A ∧ Below w.heap.size w w' := by
  obtain ⟨Z, hZ, mk⟩ := make_graph N hn
  have CL := hide (clone_none a0 c0 w)
  have HZ := hide hZ
  clear hZ
  go_enter Try.func17, Try.ntmps17
  go_wp2_with fail
  refine CL.out.mono ?_
  rintro e w1 ⟨⟨b1, c1, rfl⟩, hb1⟩
  have hcon := AnyF.slices_SortFunc_none sortLays b1 c1 (.func (.func 24) #[] #[]) w1
  have CS : Hid (Calls Try.prog 23 #[.slice b1 0 c1, .func (.func 24) #[] #[]] w1 fun e w' => e = .returned (.tuple #[]) ∧ w' = w1) := hide hcon
  have HB1 := hide hb1
  clear hcon CL hb1
  go_wp2_with fail
  refine CS.out.mono ?_
  rintro e w2 ⟨rfl, rfl⟩
  have CC := hide (compact_few b1 0 c1 (w2.alloc (.cells Z 27)) (by omega))
  have HGX := hide (GX.start w2 Z N HZ.out)
  have hs := HB1.out.size
  have HB2 := hide (HB1.out.alloc hs (.cells Z 27))
  clear CS HZ
  go_wp2_with fail
  refine CC.out.mono ?_
  rintro e w3 ⟨rfl, rfl⟩
  have HGr := hide (HGX.out.gr N)
  rw [List.length_replicate] at HGr
  have HAd : Hid (Rk.Adj N [] (List.replicate N [])) := hide ⟨by simp, fun i => by rw [row_rep]; exact List.Pairwise.nil, fun i j => by rw [row_rep]; simp, fun e he => by cases he⟩
  clear CC HGX mk
  generalize w2.alloc (.cells Z 27) = W at *
  go_wp2
  go_loop [18] (fun iv => iv = .int .i64 0) (fun _ => 0)
  case atStart => rfl
  case round =>
    obtain rfl := hrel
    go_wp2
    go_ret
    exact ⟨_, rfl, _, HAd.out, HGr.out, HB2.out⟩
theorem newGraph_any (N : Nat) (E : Rk.Eg) (v : Value) (w : World) (h : ER w v (up2 E)) (hE : Rk.In N E) (hn : N ≤ 300) (hl : E.length ≤ 20000) :
    Calls Try.prog 17 #[.int .i64 N, v] w fun e w' => ∃ gv A, e = .returned gv ∧ Rk.Adj N E A ∧ GR w' gv A ∧ Below w.heap.size w w' := by
  obtain ⟨a, c, rfl, h⟩ := h
  rw [up2_len]
  by_cases h0 : E = []
  · subst h0
    exact newGraph_none N a c w hn
  · have hp : 0 < E.length := List.length_pos_iff.2 h0
    obtain ⟨g, o, rfl, h2⟩ := h (up2_ne (i := 0) hp)
    exact newGraph_some N E g o c w h2 hE hn hl hp

set_option maxRecDepth 100000 in
set_option maxHeartbeats 2000000 in
theorem rkRanks_any (n : Int) (L : List (Int × Int)) (v : Value) (w : World) (h : ER w v L) (hn : (gfl n L).1 = 0 → n ≤ 60) :
    Calls Try.prog 8 #[.int .i64 n, v] w (KR n L w) := by
  have hb0 : Below w.heap.size w (w.alloc (.cells #[.int .i64 0, .int .i64 0] 25)) := (Below.refl _ _).alloc (Nat.le_refl _) _
  have CK := hide (rkCheck_any n L v (w.alloc (.cells #[.int .i64 0, .int .i64 0] 25)) (h.keep hb0))
  have HK := hide (fun w' (hb : Below w.heap.size w w') => h.keep hb)
  have HB0 := hide hb0
  have HN := hide hn
  clear h hn hb0
  go_enter Try.func8, Try.ntmps8
  go_wp2_with fail
  refine CK.out.mono ?_
  rintro e w1 ⟨rfl, hb1⟩
  have hs1 := hb1.size
  simp only [World.size_alloc] at hs1
  have HGB := hide ((GB.new w).go hb1)
  clear hb1 CK HB0
  by_cases hc : (gfl n L).1 = 0
  · obtain ⟨hz, hlen, N, E, rfl, hN, rfl, hIn⟩ := gfl_ok hc
    have hN60 : N ≤ 60 := by have := HN.out hc; omega
    rw [up2_len] at hlen
    have HG2 := hide (HGB.out.go ((Below.refl _ _).alloc (Nat.le_refl _) (.cells #[.int .i64 0, .int .i64 0] 25)))
    have CN := hide (newGraph_any N E v _ (HK.out _ HG2.out.bl) hIn (by omega) hlen)
    have HHC := hide hc
    have hs2 : w.heap.size < (w1.alloc (.cells #[.int .i64 0, .int .i64 0] 25)).heap.size := by simp; omega
    rw [hz]
    clear hz hIn hc HN HK
    go_wp2_with fail
    refine CN.out.mono ?_
    rintro e w2 ⟨gv, A, rfl, hA, hGR, hb2⟩
    have HG3 := hide (HG2.out.go hb2)
    have CR := hide (gxranks_any N E A gv w2 hGR hA (by omega))
    have hs3 := hb2.size
    clear hA hGR hb2 CN HG2 HGB
    go_wp2_with fail
    refine CR.out.mono ?_
    rintro e w3 ⟨r, bb, rfl, hrl, hAR, hb3, hyes, hno⟩
    obtain ⟨k5, r0, r1, f0, f1⟩ := HG3.out.go hb3
    have HB3 := hide k5
    have hs4 := hb3.size
    have HIR := hide (hAR.ir N N (by rw [up_len]; exact hrl))
    clear k5 hAR hb3 CR HG3
    cases bb with
    | true =>
      have HY := hide (hyes rfl)
      clear hyes hno
      go_wp2
      refine bodyPost_ret (v := .tuple #[.slice (some ⟨w2.heap.size, 0, none⟩) N N, .agg #[.int .i64 0, .int .i64 0]]) (by simp [results, Try.results8, go_sem, r0, r1]) rfl ?_
      refine ⟨_, _, _, (0, 0), rfl, bset1 (bset1 HB3.out (Nat.le_refl _) _) (Nat.le_refl _) _, fun ad e => ?_, .inr ⟨HHC.out, fun N' E' e1 e2 => .inl ?_⟩⟩
      · cases e
        show w.heap.size ≤ w2.heap.size
        omega
      · obtain rfl : N = N' := by omega
        obtain rfl := up2_inj e2
        refine ⟨r, hrl, rfl, rfl, HY.out, HIR.out.keepX (X := fun b => b ≠ w.heap.size) (((Kx.refl _ _).set (p := ⟨w.heap.size, 0, none⟩) (.inr (fun e => e rfl)) _).set (p := ⟨w.heap.size, 1, none⟩) (.inr (fun e => e rfl)) _) (fun g hg => ?_)⟩
        have e : g = w2.heap.size := by simpa [Value.ownBlock] using hg.symm
        show g ≠ w.heap.size
        omega
    | false =>
      have HY := hide (hno rfl)
      clear hyes hno
      go_wp2
      refine bodyPost_ret (v := .tuple #[.slice none 0 0, .agg #[.int .i64 17, .int .i64 (-1)]]) (by simp [results, Try.results8, go_sem, r0, r1]) rfl ?_
      refine ⟨_, _, _, (17, -1), rfl, bset1 (bset1 HB3.out (Nat.le_refl _) _) (Nat.le_refl _) _, fun ad e => (by cases e), .inr ⟨HHC.out, fun N' E' e1 e2 => .inr ?_⟩⟩
      obtain rfl := up2_inj e2
      exact ⟨HY.out, rfl, rfl⟩
  · have b0 : ((gfl n L).1 != 0) = true := by simpa using hc
    have HHC := hide hc
    obtain ⟨F, hF⟩ : ∃ F, F = gfl n L := ⟨_, rfl⟩
    rw [← hF] at b0 ⊢
    have HF := hide hF
    obtain ⟨F1, F2⟩ := F
    simp only at b0
    obtain ⟨k5, r0, r1, f0, f1⟩ := HGB.out.go ((Below.refl _ _).alloc (Nat.le_refl _) (.cells #[.int .i64 F1, .int .i64 F2] 25))
    have HB1 := hide (below_drewN k5 1)
    clear hc HGB HN HK hF k5
    go_wp2
    go_region
    go_wp2
    refine bodyPost_ret (v := .tuple #[.slice none 0 0, .agg #[.int .i64 F1, .int .i64 F2]]) (by simp [results, Try.results8, go_sem, r0, r1]) rfl ?_
    refine ⟨_, _, _, (F1, F2), rfl, bset1 (bset1 HB1.out (Nat.le_refl _) _) (Nat.le_refl _) _, fun ad e => (by cases e), .inl ⟨HHC.out, rfl, HF.out⟩⟩

set_option maxRecDepth 100000 in
set_option maxHeartbeats 2000000 in
theorem rkRound_any (n : Int) (L : List (Int × Int)) (v : Value) (w : World) (h : ER w v L) (hn : (gfl n L).1 = 0 → n ≤ 60) :
    Calls Try.prog 9 #[.int .i64 n, v] w (KO n L w) := by
  have hb0 : Below w.heap.size w (w.alloc (.cells #[.int .i64 0, .int .i64 0] 25)) := (Below.refl _ _).alloc (Nat.le_refl _) _
  have CK := hide (rkCheck_any n L v (w.alloc (.cells #[.int .i64 0, .int .i64 0] 25)) (h.keep hb0))
  have HK := hide (fun w' (hb : Below w.heap.size w w') => h.keep hb)
  have HN := hide hn
  clear h hn hb0
  go_enter Try.func9, Try.ntmps9
  go_wp2_with fail
  refine CK.out.mono ?_
  rintro e w1 ⟨rfl, hb1⟩
  have hs1 := hb1.size
  simp only [World.size_alloc] at hs1
  have HGB := hide ((GB.new w).go hb1)
  clear hb1 CK
  by_cases hc : (gfl n L).1 = 0
  · obtain ⟨hz, hlen, N, E, rfl, hN, rfl, hIn⟩ := gfl_ok hc
    have hN60 : N ≤ 60 := by have := HN.out hc; omega
    rw [up2_len] at hlen
    have HG2 := hide (HGB.out.go ((Below.refl _ _).alloc (Nat.le_refl _) (.cells #[.int .i64 0, .int .i64 0] 25)))
    have CN := hide (newGraph_any N E v _ (HK.out _ HG2.out.bl) hIn (by omega) hlen)
    have HHC := hide hc
    have hs2 : w.heap.size < (w1.alloc (.cells #[.int .i64 0, .int .i64 0] 25)).heap.size := by simp; omega
    rw [hz]
    clear hz hIn hc HN HK
    go_wp2_with fail
    refine CN.out.mono ?_
    rintro e w2 ⟨gv, A, rfl, hA, hGR, hb2⟩
    have HG3 := hide (HG2.out.go hb2)
    have CR := hide (gxround_any N E A gv w2 hGR hA (by omega))
    have hs3 := hb2.size
    clear hA hGR hb2 CN HG2 HGB
    go_wp2_with fail
    refine CR.out.mono ?_
    rintro e w3 ⟨rv, o, rfl, hro, hrv, hb3⟩
    obtain ⟨k5, r0, r1, f0, f1⟩ := HG3.out.go hb3
    have HB3 := hide k5
    have hs4 := hb3.size
    have HRO := hide hro
    have HRV := hide hrv
    obtain ⟨ra, rc, hrv1, -⟩ := hrv.1
    rw [up_len] at hrv1
    subst hrv1
    have HAd : Hid (∀ ad, ra = some ad → w.heap.size < ad.block) := hide (fun ad e => by
      by_cases h0 : o = []
      · have := HRV.out.2.1 h0
        rw [e] at this
        cases this
      · obtain ⟨g, cap, h1, h2⟩ := HRV.out.2.2 h0
        rw [e] at h1
        simp only [Value.slice.injEq, Option.some.injEq] at h1
        rw [h1.1]
        show w.heap.size < g
        omega)
    clear k5 hro hrv hb3 CR HG3
    go_wp2
    refine bodyPost_ret (v := .tuple #[.slice ra o.length rc, .agg #[.int .i64 0, .int .i64 0]]) (by simp [results, Try.results9, go_sem, r0, r1]) rfl ?_
    refine ⟨_, _, _, (0, 0), rfl, bset1 (bset1 HB3.out (Nat.le_refl _) _) (Nat.le_refl _) _, fun ad e => Nat.le_of_lt (HAd.out ad e), .inr ⟨HHC.out, rfl, fun E' e2 => ?_⟩⟩
    obtain rfl := up2_inj e2
    refine ⟨o, rfl, HRO.out, HRV.out.1.keepX (X := fun b => b ≠ w.heap.size) (((Kx.refl _ _).set (p := ⟨w.heap.size, 0, none⟩) (.inr (fun e => e rfl)) _).set (p := ⟨w.heap.size, 1, none⟩) (.inr (fun e => e rfl)) _) (fun g hg => ?_)⟩
    cases ra with
    | none => simp [Value.ownBlock] at hg
    | some ad =>
      have := HAd.out ad rfl
      have e : g = ad.block := by simpa [Value.ownBlock] using hg.symm
      show g ≠ w.heap.size
      omega
  · have b0 : ((gfl n L).1 != 0) = true := by simpa using hc
    have HHC := hide hc
    obtain ⟨F, hF⟩ : ∃ F, F = gfl n L := ⟨_, rfl⟩
    rw [← hF] at b0 ⊢
    have HF := hide hF
    obtain ⟨F1, F2⟩ := F
    simp only at b0
    obtain ⟨k5, r0, r1, f0, f1⟩ := HGB.out.go ((Below.refl _ _).alloc (Nat.le_refl _) (.cells #[.int .i64 F1, .int .i64 F2] 25))
    have HB1 := hide (below_drewN k5 1)
    clear hc HGB HN HK hF k5
    go_wp2
    go_region
    go_wp2
    refine bodyPost_ret (v := .tuple #[.slice none 0 0, .agg #[.int .i64 F1, .int .i64 F2]]) (by simp [results, Try.results9, go_sem, r0, r1]) rfl ?_
    refine ⟨_, _, _, (F1, F2), rfl, bset1 (bset1 HB1.out (Nat.le_refl _) _) (Nat.le_refl _) _, fun ad e => (by cases e), .inl ⟨HHC.out, rfl, HF.out⟩⟩
end Go.Proofs.Ytibhbbgpeckkfaa

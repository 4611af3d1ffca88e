import Derived.Test.YtfngmdebmedkjaePthB
/- What comes of an instruction, handed over one by one to N. -/
namespace Go.Proofs.Ytfngmdebmedkjae
open Go.RowKit

set_option maxRecDepth 100000 in
set_option maxHeartbeats 2000000 in
theorem onwN_jump (g o cc : Nat) (nm vs pr bl : Value) (p : Pa.Pr) (j : Nat) (p1 : Value) (I : (Nat → Prop) → World → List Nat → Prop) (HC : Hid (Clo (Pa.on p j) I 20 [p1])) (X : Nat → Prop) (w : World) (HI : Hid (I X w [])) (hl : p.length ≤ 300) (hj : j < p.length) (to : Int) 
   (u1 u2 u3 : Int) (u5 : ByteArray) (a6 : Option Addr) (n6 c6 : Nat) (a7 : Option Addr) (n7 c7 : Nat) (u8 u9 u10 : Int)
   (h0 : w.cell? ⟨g, o + j * 11, none⟩ = some (.int .i64 15))
   (h1 : w.cell? ⟨g, o + j * 11 + 1, none⟩ = some (.int .i64 u1)) (h2 : w.cell? ⟨g, o + j * 11 + 2, none⟩ = some (.int .i64 u2)) (h3 : w.cell? ⟨g, o + j * 11 + 3, none⟩ = some (.int .i64 u3))
   (h4 : w.cell? ⟨g, o + j * 11 + 4, none⟩ = some (.int .i64 to))
   (h5 : w.cell? ⟨g, o + j * 11 + 5, none⟩ = some (.string u5)) (h6 : w.cell? ⟨g, o + j * 11 + 6, none⟩ = some (.slice a6 n6 c6)) (h7 : w.cell? ⟨g, o + j * 11 + 7, none⟩ = some (.slice a7 n7 c7))
   (h8 : w.cell? ⟨g, o + j * 11 + 8, none⟩ = some (.int .i64 u8)) (h9 : w.cell? ⟨g, o + j * 11 + 9, none⟩ = some (.int .i64 u9)) (h10 : w.cell? ⟨g, o + j * 11 + 10, none⟩ = some (.int .i64 u10)) (hx : p[j]? = some (15, to)) :
    Calls Try.prog 19 #[.agg #[nm, vs, pr, bl, .slice (some ⟨g, o, none⟩) p.length cc], .int .i64 j, .func (.func 20) #[] #[p1]] w fun e w' => e = .returned (.tuple #[]) ∧ I X w' (Pa.on p j) ∧ Kx X w w' := by
  have hgl : g < w.heap.size := World.block_lt_of_cell? _ _ h0
  have e0 : Pa.isI p j = true := Pa.isI_iff.2 ⟨by omega, by omega⟩
  have C0 := hide (fun w' => isIns_any ⟨g, o, cc, some ⟨g, o, none⟩, nm, vs, pr, bl, p⟩ j w')
  unfold Cp.v at C0
  dsimp only at C0
  rw [e0] at C0
  have HON : Hid (Pa.on p j = Pa.one p true to ++ Pa.one p (to != to) to) := hide (on_at hx (by simp) hj)
  clear hx
  go_enter Try.func19, Try.ntmps19
  go_wp2_with fail
  refine (C0.out _).mono ?_
  rintro e w1 ⟨rfl, hb1⟩
  obtain ⟨hc1, hf1⟩ := bcell hb1
  have hz1 : w.heap.size < w1.heap.size := by have := hb1.size; simp at this; omega
  have hg1 : g < w1.heap.size := by omega
  go_wp2_with fail
  go_quiet (fail)
  by_cases bL : Pa.isI p (to) = true
  · have CL := hide (fun w' => isIns_any ⟨g, o, cc, some ⟨g, o, none⟩, nm, vs, pr, bl, p⟩ (to) w')
    unfold Cp.v at CL
    dsimp only at CL
    rw [bL] at CL
    obtain ⟨bl0, bl1⟩ := Pa.isI_iff.1 bL
    have HV : Hid (((to).toNat : Int) = to) := hide (Int.toNat_of_nonneg bl0)
    have CC := hide (fun X w1 hi => HC.out.call X w1 [] (to).toNat (Pa.one p (to != to) (to)) (by rw [HON.out, one_yes rfl bL]; rfl) hi)
    rw [HV.out] at CC
    go_wp2_with fail
    refine (CL.out _).mono ?_
    rintro e w2 ⟨rfl, hb2⟩
    have HB2 : Hid (Below (w.alloc (.cells #[nm, vs, pr, bl, .slice (some ⟨g, o, none⟩) p.length cc] 26)).heap.size (w.alloc (.cells #[nm, vs, pr, bl, .slice (some ⟨g, o, none⟩) p.length cc] 26)) w2) := hide (btrans (below_drewN (hb1.alloc hb1.size _) _) hb2)
    have HI2 := hide (HC.out.grow X w w2 [] HI.out (btrans ((Below.refl _ _).alloc (Nat.le_refl _) _) HB2.out))
    have hz2 : w.heap.size < w2.heap.size := by have := HB2.out.size; simp at this; omega
    clear hb2 hc1 hf1 CL
    go_wp2_with fail
    refine (CC.out _ _ HI2.out).mono ?_
    rintro e w3 ⟨rfl, hi3, hk3⟩
    have box : ∀ (o' : Nat) u, (w.alloc (.cells #[nm, vs, pr, bl, .slice (some ⟨g, o, none⟩) p.length cc] 26)).cell? ⟨w.heap.size, o', none⟩ = some u → w3.cell? ⟨w.heap.size, o', none⟩ = some u :=
      fun o' u hu => hk3.cell (bsome HB2.out hu) (.inr ⟨Nat.le_refl _, hz2⟩)
    have x0 := box 0 nm (by simp [go_sem])
    have x1 := box 1 vs (by simp [go_sem])
    have x2 := box 2 pr (by simp [go_sem])
    have x3 := box 3 bl (by simp [go_sem])
    have x4 := box 4 (.slice (some ⟨g, o, none⟩) p.length cc) (by simp [go_sem])
    have K3 : Hid (Kx X w w3) := hide ((Kx.of_below (btrans ((Below.refl _ _).alloc (Nat.le_refl _) _) HB2.out)).trans (hk3.mono (fun k _ hx => .inl hx)))
    have I3 := hide hi3
    clear box hk3 hi3 CC
    go_wp2
    go_end0
    refine ⟨rfl, ?_, K3.out⟩
    rw [HON.out, one_yes rfl bL, one_no (.inl (by simp))]
    exact HC.out.less _ _ _ _ (fun _ hx => .inl hx) I3.out
  · have bL' : Pa.isI p (to) = false := by simpa using bL
    have CL := hide (fun w' => isIns_any ⟨g, o, cc, some ⟨g, o, none⟩, nm, vs, pr, bl, p⟩ (to) w')
    unfold Cp.v at CL
    dsimp only at CL
    rw [bL'] at CL
    go_wp2_with fail
    refine (CL.out _).mono ?_
    rintro e w2 ⟨rfl, hb2⟩
    have HB2 : Hid (Below (w.alloc (.cells #[nm, vs, pr, bl, .slice (some ⟨g, o, none⟩) p.length cc] 26)).heap.size (w.alloc (.cells #[nm, vs, pr, bl, .slice (some ⟨g, o, none⟩) p.length cc] 26)) w2) := hide (btrans (below_drewN (hb1.alloc hb1.size _) _) hb2)
    have B2 : Hid (Below w.heap.size w w2) := hide (btrans ((Below.refl _ _).alloc (Nat.le_refl _) _) HB2.out)
    have x0 : w2.cell? ⟨w.heap.size, 0, none⟩ = some nm := bsome HB2.out (by simp [go_sem])
    have x1 : w2.cell? ⟨w.heap.size, 1, none⟩ = some vs := bsome HB2.out (by simp [go_sem])
    have x2 : w2.cell? ⟨w.heap.size, 2, none⟩ = some pr := bsome HB2.out (by simp [go_sem])
    have x3 : w2.cell? ⟨w.heap.size, 3, none⟩ = some bl := bsome HB2.out (by simp [go_sem])
    have x4 : w2.cell? ⟨w.heap.size, 4, none⟩ = some (.slice (some ⟨g, o, none⟩) p.length cc) := bsome HB2.out (by simp [go_sem])
    clear hb2 hc1 hf1 CL
    go_wp2
    go_end0
    refine ⟨rfl, ?_, Kx.of_below B2.out⟩
    rw [HON.out, one_no (.inr bL'), one_no (.inl (by simp))]
    exact HC.out.past HI.out B2.out
set_option maxRecDepth 100000 in
set_option maxHeartbeats 2000000 in
theorem onwN_next (g o cc : Nat) (nm vs pr bl : Value) (p : Pa.Pr) (j : Nat) (p1 : Value) (I : (Nat → Prop) → World → List Nat → Prop) (HC : Hid (Clo (Pa.on p j) I 20 [p1])) (X : Nat → Prop) (w : World) (HI : Hid (I X w [])) (hl : p.length ≤ 300) (hj : j < p.length) (to : Int)  (op : Int) (b17 : (op == 17) = false) (b15 : (op == 15) = false) (b14 : (op == 14) = false) (b13 : (op == 13) = false) (b11 : (op == 11) = false)
   (u1 u2 u3 : Int) (u5 : ByteArray) (a6 : Option Addr) (n6 c6 : Nat) (a7 : Option Addr) (n7 c7 : Nat) (u8 u9 u10 : Int)
   (h0 : w.cell? ⟨g, o + j * 11, none⟩ = some (.int .i64 op))
   (h1 : w.cell? ⟨g, o + j * 11 + 1, none⟩ = some (.int .i64 u1)) (h2 : w.cell? ⟨g, o + j * 11 + 2, none⟩ = some (.int .i64 u2)) (h3 : w.cell? ⟨g, o + j * 11 + 3, none⟩ = some (.int .i64 u3))
   (h4 : w.cell? ⟨g, o + j * 11 + 4, none⟩ = some (.int .i64 to))
   (h5 : w.cell? ⟨g, o + j * 11 + 5, none⟩ = some (.string u5)) (h6 : w.cell? ⟨g, o + j * 11 + 6, none⟩ = some (.slice a6 n6 c6)) (h7 : w.cell? ⟨g, o + j * 11 + 7, none⟩ = some (.slice a7 n7 c7))
   (h8 : w.cell? ⟨g, o + j * 11 + 8, none⟩ = some (.int .i64 u8)) (h9 : w.cell? ⟨g, o + j * 11 + 9, none⟩ = some (.int .i64 u9)) (h10 : w.cell? ⟨g, o + j * 11 + 10, none⟩ = some (.int .i64 u10)) (hx : p[j]? = some (op, to)) :
    Calls Try.prog 19 #[.agg #[nm, vs, pr, bl, .slice (some ⟨g, o, none⟩) p.length cc], .int .i64 j, .func (.func 20) #[] #[p1]] w fun e w' => e = .returned (.tuple #[]) ∧ I X w' (Pa.on p j) ∧ Kx X w w' := by
  have hgl : g < w.heap.size := World.block_lt_of_cell? _ _ h0
  have e0 : Pa.isI p j = true := Pa.isI_iff.2 ⟨by omega, by omega⟩
  have C0 := hide (fun w' => isIns_any ⟨g, o, cc, some ⟨g, o, none⟩, nm, vs, pr, bl, p⟩ j w')
  unfold Cp.v at C0
  dsimp only at C0
  rw [e0] at C0
  have HON : Hid (Pa.on p j = Pa.one p true ((j : Int) + 1) ++ Pa.one p ((j : Int) + 1 != (j : Int) + 1) ((j : Int) + 1)) := by
    have h3 : ¬ (op = 14 ∨ op = 13 ∨ op = 11) := by rintro (h | h | h) <;> simp_all
    have := on_at hx (by simpa using b17) hj
    unfold Pa.lo Pa.hi at this
    simp only [show ¬ op = 15 by simpa using b15, if_false, h3] at this
    exact this
  clear hx
  go_enter Try.func19, Try.ntmps19
  go_wp2_with fail
  refine (C0.out _).mono ?_
  rintro e w1 ⟨rfl, hb1⟩
  obtain ⟨hc1, hf1⟩ := bcell hb1
  have hz1 : w.heap.size < w1.heap.size := by have := hb1.size; simp at this; omega
  have hg1 : g < w1.heap.size := by omega
  by_cases bL : Pa.isI p ((j : Int) + 1) = true
  · have CL := hide (fun w' => isIns_any ⟨g, o, cc, some ⟨g, o, none⟩, nm, vs, pr, bl, p⟩ ((j : Int) + 1) w')
    unfold Cp.v at CL
    dsimp only at CL
    rw [bL] at CL
    obtain ⟨bl0, bl1⟩ := Pa.isI_iff.1 bL
    have HV : Hid ((((j : Int) + 1).toNat : Int) = (j : Int) + 1) := hide (Int.toNat_of_nonneg bl0)
    have CC := hide (fun X w1 hi => HC.out.call X w1 [] ((j : Int) + 1).toNat (Pa.one p ((j : Int) + 1 != (j : Int) + 1) ((j : Int) + 1)) (by rw [HON.out, one_yes rfl bL]; rfl) hi)
    rw [HV.out] at CC
    go_wp2_with fail
    refine (CL.out _).mono ?_
    rintro e w2 ⟨rfl, hb2⟩
    have HB2 : Hid (Below (w.alloc (.cells #[nm, vs, pr, bl, .slice (some ⟨g, o, none⟩) p.length cc] 26)).heap.size (w.alloc (.cells #[nm, vs, pr, bl, .slice (some ⟨g, o, none⟩) p.length cc] 26)) w2) := hide (btrans (hb1.alloc hb1.size _) hb2)
    have HI2 := hide (HC.out.grow X w w2 [] HI.out (btrans ((Below.refl _ _).alloc (Nat.le_refl _) _) HB2.out))
    have hz2 : w.heap.size < w2.heap.size := by have := HB2.out.size; simp at this; omega
    clear hb2 hc1 hf1 CL
    go_wp2_with fail
    refine (CC.out _ _ HI2.out).mono ?_
    rintro e w3 ⟨rfl, hi3, hk3⟩
    have box : ∀ (o' : Nat) u, (w.alloc (.cells #[nm, vs, pr, bl, .slice (some ⟨g, o, none⟩) p.length cc] 26)).cell? ⟨w.heap.size, o', none⟩ = some u → w3.cell? ⟨w.heap.size, o', none⟩ = some u :=
      fun o' u hu => hk3.cell (bsome HB2.out hu) (.inr ⟨Nat.le_refl _, hz2⟩)
    have x0 := box 0 nm (by simp [go_sem])
    have x1 := box 1 vs (by simp [go_sem])
    have x2 := box 2 pr (by simp [go_sem])
    have x3 := box 3 bl (by simp [go_sem])
    have x4 := box 4 (.slice (some ⟨g, o, none⟩) p.length cc) (by simp [go_sem])
    have K3 : Hid (Kx X w w3) := hide ((Kx.of_below (btrans ((Below.refl _ _).alloc (Nat.le_refl _) _) HB2.out)).trans (hk3.mono (fun k _ hx => .inl hx)))
    have I3 := hide hi3
    clear box hk3 hi3 CC
    go_wp2
    go_end0
    refine ⟨rfl, ?_, K3.out⟩
    rw [HON.out, one_yes rfl bL, one_no (.inl (by simp))]
    exact HC.out.less _ _ _ _ (fun _ hx => .inl hx) I3.out
  · have bL' : Pa.isI p ((j : Int) + 1) = false := by simpa using bL
    have CL := hide (fun w' => isIns_any ⟨g, o, cc, some ⟨g, o, none⟩, nm, vs, pr, bl, p⟩ ((j : Int) + 1) w')
    unfold Cp.v at CL
    dsimp only at CL
    rw [bL'] at CL
    go_wp2_with fail
    refine (CL.out _).mono ?_
    rintro e w2 ⟨rfl, hb2⟩
    have HB2 : Hid (Below (w.alloc (.cells #[nm, vs, pr, bl, .slice (some ⟨g, o, none⟩) p.length cc] 26)).heap.size (w.alloc (.cells #[nm, vs, pr, bl, .slice (some ⟨g, o, none⟩) p.length cc] 26)) w2) := hide (btrans (hb1.alloc hb1.size _) hb2)
    have B2 : Hid (Below w.heap.size w w2) := hide (btrans ((Below.refl _ _).alloc (Nat.le_refl _) _) HB2.out)
    have x0 : w2.cell? ⟨w.heap.size, 0, none⟩ = some nm := bsome HB2.out (by simp [go_sem])
    have x1 : w2.cell? ⟨w.heap.size, 1, none⟩ = some vs := bsome HB2.out (by simp [go_sem])
    have x2 : w2.cell? ⟨w.heap.size, 2, none⟩ = some pr := bsome HB2.out (by simp [go_sem])
    have x3 : w2.cell? ⟨w.heap.size, 3, none⟩ = some bl := bsome HB2.out (by simp [go_sem])
    have x4 : w2.cell? ⟨w.heap.size, 4, none⟩ = some (.slice (some ⟨g, o, none⟩) p.length cc) := bsome HB2.out (by simp [go_sem])
    clear hb2 hc1 hf1 CL
    go_wp2
    go_end0
    refine ⟨rfl, ?_, Kx.of_below B2.out⟩
    rw [HON.out, one_no (.inr bL'), one_no (.inl (by simp))]
    exact HC.out.past HI.out B2.out
set_option maxRecDepth 100000 in
set_option maxHeartbeats 2000000 in
theorem onwN_14_lt (g o cc : Nat) (nm vs pr bl : Value) (p : Pa.Pr) (j : Nat) (p1 : Value) (I : (Nat → Prop) → World → List Nat → Prop) (HC : Hid (Clo (Pa.on p j) I 20 [p1])) (X : Nat → Prop) (w : World) (HI : Hid (I X w [])) (hl : p.length ≤ 300) (hj : j < p.length) (to : Int)  (hlt : (j : Int) + 1 < to)
   (u1 u2 u3 : Int) (u5 : ByteArray) (a6 : Option Addr) (n6 c6 : Nat) (a7 : Option Addr) (n7 c7 : Nat) (u8 u9 u10 : Int)
   (h0 : w.cell? ⟨g, o + j * 11, none⟩ = some (.int .i64 14))
   (h1 : w.cell? ⟨g, o + j * 11 + 1, none⟩ = some (.int .i64 u1)) (h2 : w.cell? ⟨g, o + j * 11 + 2, none⟩ = some (.int .i64 u2)) (h3 : w.cell? ⟨g, o + j * 11 + 3, none⟩ = some (.int .i64 u3))
   (h4 : w.cell? ⟨g, o + j * 11 + 4, none⟩ = some (.int .i64 to))
   (h5 : w.cell? ⟨g, o + j * 11 + 5, none⟩ = some (.string u5)) (h6 : w.cell? ⟨g, o + j * 11 + 6, none⟩ = some (.slice a6 n6 c6)) (h7 : w.cell? ⟨g, o + j * 11 + 7, none⟩ = some (.slice a7 n7 c7))
   (h8 : w.cell? ⟨g, o + j * 11 + 8, none⟩ = some (.int .i64 u8)) (h9 : w.cell? ⟨g, o + j * 11 + 9, none⟩ = some (.int .i64 u9)) (h10 : w.cell? ⟨g, o + j * 11 + 10, none⟩ = some (.int .i64 u10)) (hx : p[j]? = some (14, to)) :
    Calls Try.prog 19 #[.agg #[nm, vs, pr, bl, .slice (some ⟨g, o, none⟩) p.length cc], .int .i64 j, .func (.func 20) #[] #[p1]] w fun e w' => e = .returned (.tuple #[]) ∧ I X w' (Pa.on p j) ∧ Kx X w w' := by
  have hgl : g < w.heap.size := World.block_lt_of_cell? _ _ h0
  have e0 : Pa.isI p j = true := Pa.isI_iff.2 ⟨by omega, by omega⟩
  have C0 := hide (fun w' => isIns_any ⟨g, o, cc, some ⟨g, o, none⟩, nm, vs, pr, bl, p⟩ j w')
  unfold Cp.v at C0
  dsimp only at C0
  rw [e0] at C0
  have HON : Hid (Pa.on p j = Pa.one p true ((j : Int) + 1) ++ Pa.one p (to != (j : Int) + 1) (to)) := by
    have e1 : Pa.lo (14, to) j = (j : Int) + 1 := by show min ((j : Int) + 1) _ = _; omega
    have e2 : Pa.hi (14, to) j = to := by show max ((j : Int) + 1) _ = _; omega
    have := on_at hx (by simp) hj
    rw [e1, e2] at this
    exact this
  have HNE : Hid ((to) ≠ (j : Int) + 1) := hide (by omega)
  clear hx
  go_enter Try.func19, Try.ntmps19
  go_wp2_with fail
  refine (C0.out _).mono ?_
  rintro e w1 ⟨rfl, hb1⟩
  obtain ⟨hc1, hf1⟩ := bcell hb1
  have hz1 : w.heap.size < w1.heap.size := by have := hb1.size; simp at this; omega
  have hg1 : g < w1.heap.size := by omega
  by_cases bL : Pa.isI p ((j : Int) + 1) = true
  · have CL := hide (fun w' => isIns_any ⟨g, o, cc, some ⟨g, o, none⟩, nm, vs, pr, bl, p⟩ ((j : Int) + 1) w')
    unfold Cp.v at CL
    dsimp only at CL
    rw [bL] at CL
    obtain ⟨bl0, bl1⟩ := Pa.isI_iff.1 bL
    have HV : Hid ((((j : Int) + 1).toNat : Int) = (j : Int) + 1) := hide (Int.toNat_of_nonneg bl0)
    have CC := hide (fun X w1 hi => HC.out.call X w1 [] ((j : Int) + 1).toNat (Pa.one p (to != (j : Int) + 1) (to)) (by rw [HON.out, one_yes rfl bL]; rfl) hi)
    rw [HV.out] at CC
    go_wp2_with fail
    refine (CL.out _).mono ?_
    rintro e w2 ⟨rfl, hb2⟩
    have HB2 : Hid (Below (w.alloc (.cells #[nm, vs, pr, bl, .slice (some ⟨g, o, none⟩) p.length cc] 26)).heap.size (w.alloc (.cells #[nm, vs, pr, bl, .slice (some ⟨g, o, none⟩) p.length cc] 26)) w2) := hide (btrans (hb1.alloc hb1.size _) hb2)
    have HI2 := hide (HC.out.grow X w w2 [] HI.out (btrans ((Below.refl _ _).alloc (Nat.le_refl _) _) HB2.out))
    have hz2 : w.heap.size < w2.heap.size := by have := HB2.out.size; simp at this; omega
    clear hb2 hc1 hf1 CL
    go_wp2_with fail
    refine (CC.out _ _ HI2.out).mono ?_
    rintro e w3 ⟨rfl, hi3, hk3⟩
    have box : ∀ (o' : Nat) u, (w.alloc (.cells #[nm, vs, pr, bl, .slice (some ⟨g, o, none⟩) p.length cc] 26)).cell? ⟨w.heap.size, o', none⟩ = some u → w3.cell? ⟨w.heap.size, o', none⟩ = some u :=
      fun o' u hu => hk3.cell (bsome HB2.out hu) (.inr ⟨Nat.le_refl _, hz2⟩)
    have x0 := box 0 nm (by simp [go_sem])
    have x1 := box 1 vs (by simp [go_sem])
    have x2 := box 2 pr (by simp [go_sem])
    have x3 := box 3 bl (by simp [go_sem])
    have x4 := box 4 (.slice (some ⟨g, o, none⟩) p.length cc) (by simp [go_sem])
    have K3 : Hid (Kx X w w3) := hide ((Kx.of_below (btrans ((Below.refl _ _).alloc (Nat.le_refl _) _) HB2.out)).trans (hk3.mono (fun k _ hx => .inl hx)))
    have I3 := hide hi3
    clear box hk3 hi3 CC
    by_cases bH : Pa.isI p (to) = true
    · have CH := hide (fun w' => isIns_any ⟨g, o, cc, some ⟨g, o, none⟩, nm, vs, pr, bl, p⟩ (to) w')
      unfold Cp.v at CH
      dsimp only at CH
      rw [bH] at CH
      obtain ⟨bh0, bh1⟩ := Pa.isI_iff.1 bH
      have HV2 : Hid (((to).toNat : Int) = to) := hide (Int.toNat_of_nonneg bh0)
      have CC := hide (fun X w1 hi => HC.out.call X w1 ([] ++ [((j : Int) + 1).toNat]) (to).toNat [] (by rw [HON.out, one_yes rfl bL, one_yes (by simpa using HNE.out) bH]; try rfl) hi)
      rw [HV2.out] at CC
      go_wp2_with fail
      refine (CH.out _).mono ?_
      rintro e w4 ⟨rfl, hb4⟩
      have HI4 := hide (HC.out.past I3.out hb4)
      have K4 : Hid (Kx X w w4) := hide (K3.out.trans (Kx.of_below hb4))
      clear CH hb4
      go_wp2_with fail
      refine (CC.out _ _ HI4.out).mono ?_
      rintro e w5 ⟨rfl, hi5, hk5⟩
      have K5 : Hid (Kx X w w5) := hide (K4.out.trans (hk5.mono (fun k _ hx => .inl hx)))
      have I5 := hide hi5
      clear hi5 hk5 CC
      go_wp2
      go_end0
      refine ⟨rfl, ?_, K5.out⟩
      rw [HON.out, one_yes rfl bL, one_yes (by simpa using HNE.out) bH]
      exact HC.out.less _ _ _ _ (fun _ hx => .inl hx) I5.out
    · have bH' : Pa.isI p (to) = false := by simpa using bH
      have CH := hide (fun w' => isIns_any ⟨g, o, cc, some ⟨g, o, none⟩, nm, vs, pr, bl, p⟩ (to) w')
      unfold Cp.v at CH
      dsimp only at CH
      rw [bH'] at CH
      go_wp2_with fail
      refine (CH.out _).mono ?_
      rintro e w4 ⟨rfl, hb4⟩
      have HI4 := hide (HC.out.past I3.out hb4)
      have K4 : Hid (Kx X w w4) := hide (K3.out.trans (Kx.of_below hb4))
      clear CH hb4
      go_wp2
      go_end0
      refine ⟨rfl, ?_, K4.out⟩
      rw [HON.out, one_yes rfl bL, one_no (.inr bH')]
      exact HC.out.less _ _ _ _ (fun _ hx => .inl hx) HI4.out
  · have bL' : Pa.isI p ((j : Int) + 1) = false := by simpa using bL
    have CL := hide (fun w' => isIns_any ⟨g, o, cc, some ⟨g, o, none⟩, nm, vs, pr, bl, p⟩ ((j : Int) + 1) w')
    unfold Cp.v at CL
    dsimp only at CL
    rw [bL'] at CL
    go_wp2_with fail
    refine (CL.out _).mono ?_
    rintro e w2 ⟨rfl, hb2⟩
    have HB2 : Hid (Below (w.alloc (.cells #[nm, vs, pr, bl, .slice (some ⟨g, o, none⟩) p.length cc] 26)).heap.size (w.alloc (.cells #[nm, vs, pr, bl, .slice (some ⟨g, o, none⟩) p.length cc] 26)) w2) := hide (btrans (hb1.alloc hb1.size _) hb2)
    have B2 : Hid (Below w.heap.size w w2) := hide (btrans ((Below.refl _ _).alloc (Nat.le_refl _) _) HB2.out)
    have x0 : w2.cell? ⟨w.heap.size, 0, none⟩ = some nm := bsome HB2.out (by simp [go_sem])
    have x1 : w2.cell? ⟨w.heap.size, 1, none⟩ = some vs := bsome HB2.out (by simp [go_sem])
    have x2 : w2.cell? ⟨w.heap.size, 2, none⟩ = some pr := bsome HB2.out (by simp [go_sem])
    have x3 : w2.cell? ⟨w.heap.size, 3, none⟩ = some bl := bsome HB2.out (by simp [go_sem])
    have x4 : w2.cell? ⟨w.heap.size, 4, none⟩ = some (.slice (some ⟨g, o, none⟩) p.length cc) := bsome HB2.out (by simp [go_sem])
    clear hb2 hc1 hf1 CL
    by_cases bH : Pa.isI p (to) = true
    · have CH := hide (fun w' => isIns_any ⟨g, o, cc, some ⟨g, o, none⟩, nm, vs, pr, bl, p⟩ (to) w')
      unfold Cp.v at CH
      dsimp only at CH
      rw [bH] at CH
      obtain ⟨bh0, bh1⟩ := Pa.isI_iff.1 bH
      have HV2 : Hid (((to).toNat : Int) = to) := hide (Int.toNat_of_nonneg bh0)
      have CC := hide (fun X w1 hi => HC.out.call X w1 [] (to).toNat [] (by rw [HON.out, one_no (.inr bL'), one_yes (by simpa using HNE.out) bH]; try rfl) hi)
      rw [HV2.out] at CC
      go_wp2_with fail
      refine (CH.out _).mono ?_
      rintro e w4 ⟨rfl, hb4⟩
      have B4 := hide (btrans B2.out hb4)
      have HI4 := hide (HC.out.past HI.out B4.out)
      clear CH hb4
      go_wp2_with fail
      refine (CC.out _ _ HI4.out).mono ?_
      rintro e w5 ⟨rfl, hi5, hk5⟩
      have K5 : Hid (Kx X w w5) := hide ((Kx.of_below B4.out).trans hk5)
      have I5 := hide hi5
      clear hi5 hk5 CC
      go_wp2
      go_end0
      refine ⟨rfl, ?_, K5.out⟩
      rw [HON.out, one_no (.inr bL'), one_yes (by simpa using HNE.out) bH]
      exact I5.out
    · have bH' : Pa.isI p (to) = false := by simpa using bH
      have CH := hide (fun w' => isIns_any ⟨g, o, cc, some ⟨g, o, none⟩, nm, vs, pr, bl, p⟩ (to) w')
      unfold Cp.v at CH
      dsimp only at CH
      rw [bH'] at CH
      go_wp2_with fail
      refine (CH.out _).mono ?_
      rintro e w4 ⟨rfl, hb4⟩
      have B4 := hide (btrans B2.out hb4)
      clear CH hb4
      go_wp2
      go_end0
      refine ⟨rfl, ?_, Kx.of_below B4.out⟩
      rw [HON.out, one_no (.inr bL'), one_no (.inr bH')]
      exact HC.out.past HI.out B4.out
set_option maxRecDepth 100000 in
set_option maxHeartbeats 2000000 in
theorem onwN_14_gt (g o cc : Nat) (nm vs pr bl : Value) (p : Pa.Pr) (j : Nat) (p1 : Value) (I : (Nat → Prop) → World → List Nat → Prop) (HC : Hid (Clo (Pa.on p j) I 20 [p1])) (X : Nat → Prop) (w : World) (HI : Hid (I X w [])) (hl : p.length ≤ 300) (hj : j < p.length) (to : Int)  (hlt : to < (j : Int) + 1)
   (u1 u2 u3 : Int) (u5 : ByteArray) (a6 : Option Addr) (n6 c6 : Nat) (a7 : Option Addr) (n7 c7 : Nat) (u8 u9 u10 : Int)
   (h0 : w.cell? ⟨g, o + j * 11, none⟩ = some (.int .i64 14))
   (h1 : w.cell? ⟨g, o + j * 11 + 1, none⟩ = some (.int .i64 u1)) (h2 : w.cell? ⟨g, o + j * 11 + 2, none⟩ = some (.int .i64 u2)) (h3 : w.cell? ⟨g, o + j * 11 + 3, none⟩ = some (.int .i64 u3))
   (h4 : w.cell? ⟨g, o + j * 11 + 4, none⟩ = some (.int .i64 to))
   (h5 : w.cell? ⟨g, o + j * 11 + 5, none⟩ = some (.string u5)) (h6 : w.cell? ⟨g, o + j * 11 + 6, none⟩ = some (.slice a6 n6 c6)) (h7 : w.cell? ⟨g, o + j * 11 + 7, none⟩ = some (.slice a7 n7 c7))
   (h8 : w.cell? ⟨g, o + j * 11 + 8, none⟩ = some (.int .i64 u8)) (h9 : w.cell? ⟨g, o + j * 11 + 9, none⟩ = some (.int .i64 u9)) (h10 : w.cell? ⟨g, o + j * 11 + 10, none⟩ = some (.int .i64 u10)) (hx : p[j]? = some (14, to)) :
    Calls Try.prog 19 #[.agg #[nm, vs, pr, bl, .slice (some ⟨g, o, none⟩) p.length cc], .int .i64 j, .func (.func 20) #[] #[p1]] w fun e w' => e = .returned (.tuple #[]) ∧ I X w' (Pa.on p j) ∧ Kx X w w' := by
  have hgl : g < w.heap.size := World.block_lt_of_cell? _ _ h0
  have e0 : Pa.isI p j = true := Pa.isI_iff.2 ⟨by omega, by omega⟩
  have C0 := hide (fun w' => isIns_any ⟨g, o, cc, some ⟨g, o, none⟩, nm, vs, pr, bl, p⟩ j w')
  unfold Cp.v at C0
  dsimp only at C0
  rw [e0] at C0
  have HON : Hid (Pa.on p j = Pa.one p true (to) ++ Pa.one p ((j : Int) + 1 != to) ((j : Int) + 1)) := by
    have e1 : Pa.lo (14, to) j = to := by show min ((j : Int) + 1) _ = _; omega
    have e2 : Pa.hi (14, to) j = (j : Int) + 1 := by show max ((j : Int) + 1) _ = _; omega
    have := on_at hx (by simp) hj
    rw [e1, e2] at this
    exact this
  have HNE : Hid (((j : Int) + 1) ≠ to) := hide (by omega)
  clear hx
  go_enter Try.func19, Try.ntmps19
  go_wp2_with fail
  refine (C0.out _).mono ?_
  rintro e w1 ⟨rfl, hb1⟩
  obtain ⟨hc1, hf1⟩ := bcell hb1
  have hz1 : w.heap.size < w1.heap.size := by have := hb1.size; simp at this; omega
  have hg1 : g < w1.heap.size := by omega
  by_cases bL : Pa.isI p (to) = true
  · have CL := hide (fun w' => isIns_any ⟨g, o, cc, some ⟨g, o, none⟩, nm, vs, pr, bl, p⟩ (to) w')
    unfold Cp.v at CL
    dsimp only at CL
    rw [bL] at CL
    obtain ⟨bl0, bl1⟩ := Pa.isI_iff.1 bL
    have HV : Hid (((to).toNat : Int) = to) := hide (Int.toNat_of_nonneg bl0)
    have CC := hide (fun X w1 hi => HC.out.call X w1 [] (to).toNat (Pa.one p ((j : Int) + 1 != to) ((j : Int) + 1)) (by rw [HON.out, one_yes rfl bL]; rfl) hi)
    rw [HV.out] at CC
    go_wp2_with fail
    refine (CL.out _).mono ?_
    rintro e w2 ⟨rfl, hb2⟩
    have HB2 : Hid (Below (w.alloc (.cells #[nm, vs, pr, bl, .slice (some ⟨g, o, none⟩) p.length cc] 26)).heap.size (w.alloc (.cells #[nm, vs, pr, bl, .slice (some ⟨g, o, none⟩) p.length cc] 26)) w2) := hide (btrans (hb1.alloc hb1.size _) hb2)
    have HI2 := hide (HC.out.grow X w w2 [] HI.out (btrans ((Below.refl _ _).alloc (Nat.le_refl _) _) HB2.out))
    have hz2 : w.heap.size < w2.heap.size := by have := HB2.out.size; simp at this; omega
    clear hb2 hc1 hf1 CL
    go_wp2_with fail
    refine (CC.out _ _ HI2.out).mono ?_
    rintro e w3 ⟨rfl, hi3, hk3⟩
    have box : ∀ (o' : Nat) u, (w.alloc (.cells #[nm, vs, pr, bl, .slice (some ⟨g, o, none⟩) p.length cc] 26)).cell? ⟨w.heap.size, o', none⟩ = some u → w3.cell? ⟨w.heap.size, o', none⟩ = some u :=
      fun o' u hu => hk3.cell (bsome HB2.out hu) (.inr ⟨Nat.le_refl _, hz2⟩)
    have x0 := box 0 nm (by simp [go_sem])
    have x1 := box 1 vs (by simp [go_sem])
    have x2 := box 2 pr (by simp [go_sem])
    have x3 := box 3 bl (by simp [go_sem])
    have x4 := box 4 (.slice (some ⟨g, o, none⟩) p.length cc) (by simp [go_sem])
    have K3 : Hid (Kx X w w3) := hide ((Kx.of_below (btrans ((Below.refl _ _).alloc (Nat.le_refl _) _) HB2.out)).trans (hk3.mono (fun k _ hx => .inl hx)))
    have I3 := hide hi3
    clear box hk3 hi3 CC
    by_cases bH : Pa.isI p ((j : Int) + 1) = true
    · have CH := hide (fun w' => isIns_any ⟨g, o, cc, some ⟨g, o, none⟩, nm, vs, pr, bl, p⟩ ((j : Int) + 1) w')
      unfold Cp.v at CH
      dsimp only at CH
      rw [bH] at CH
      obtain ⟨bh0, bh1⟩ := Pa.isI_iff.1 bH
      have HV2 : Hid ((((j : Int) + 1).toNat : Int) = (j : Int) + 1) := hide (Int.toNat_of_nonneg bh0)
      have CC := hide (fun X w1 hi => HC.out.call X w1 ([] ++ [(to).toNat]) ((j : Int) + 1).toNat [] (by rw [HON.out, one_yes rfl bL, one_yes (by simpa using HNE.out) bH]; try rfl) hi)
      rw [HV2.out] at CC
      go_wp2_with fail
      refine (CH.out _).mono ?_
      rintro e w4 ⟨rfl, hb4⟩
      have HI4 := hide (HC.out.past I3.out hb4)
      have K4 : Hid (Kx X w w4) := hide (K3.out.trans (Kx.of_below hb4))
      clear CH hb4
      go_wp2_with fail
      refine (CC.out _ _ HI4.out).mono ?_
      rintro e w5 ⟨rfl, hi5, hk5⟩
      have K5 : Hid (Kx X w w5) := hide (K4.out.trans (hk5.mono (fun k _ hx => .inl hx)))
      have I5 := hide hi5
      clear hi5 hk5 CC
      go_wp2
      go_end0
      refine ⟨rfl, ?_, K5.out⟩
      rw [HON.out, one_yes rfl bL, one_yes (by simpa using HNE.out) bH]
      exact HC.out.less _ _ _ _ (fun _ hx => .inl hx) I5.out
    · have bH' : Pa.isI p ((j : Int) + 1) = false := by simpa using bH
      have CH := hide (fun w' => isIns_any ⟨g, o, cc, some ⟨g, o, none⟩, nm, vs, pr, bl, p⟩ ((j : Int) + 1) w')
      unfold Cp.v at CH
      dsimp only at CH
      rw [bH'] at CH
      go_wp2_with fail
      refine (CH.out _).mono ?_
      rintro e w4 ⟨rfl, hb4⟩
      have HI4 := hide (HC.out.past I3.out hb4)
      have K4 : Hid (Kx X w w4) := hide (K3.out.trans (Kx.of_below hb4))
      clear CH hb4
      go_wp2
      go_end0
      refine ⟨rfl, ?_, K4.out⟩
      rw [HON.out, one_yes rfl bL, one_no (.inr bH')]
      exact HC.out.less _ _ _ _ (fun _ hx => .inl hx) HI4.out
  · have bL' : Pa.isI p (to) = false := by simpa using bL
    have CL := hide (fun w' => isIns_any ⟨g, o, cc, some ⟨g, o, none⟩, nm, vs, pr, bl, p⟩ (to) w')
    unfold Cp.v at CL
    dsimp only at CL
    rw [bL'] at CL
    go_wp2_with fail
    refine (CL.out _).mono ?_
    rintro e w2 ⟨rfl, hb2⟩
    have HB2 : Hid (Below (w.alloc (.cells #[nm, vs, pr, bl, .slice (some ⟨g, o, none⟩) p.length cc] 26)).heap.size (w.alloc (.cells #[nm, vs, pr, bl, .slice (some ⟨g, o, none⟩) p.length cc] 26)) w2) := hide (btrans (hb1.alloc hb1.size _) hb2)
    have B2 : Hid (Below w.heap.size w w2) := hide (btrans ((Below.refl _ _).alloc (Nat.le_refl _) _) HB2.out)
    have x0 : w2.cell? ⟨w.heap.size, 0, none⟩ = some nm := bsome HB2.out (by simp [go_sem])
    have x1 : w2.cell? ⟨w.heap.size, 1, none⟩ = some vs := bsome HB2.out (by simp [go_sem])
    have x2 : w2.cell? ⟨w.heap.size, 2, none⟩ = some pr := bsome HB2.out (by simp [go_sem])
    have x3 : w2.cell? ⟨w.heap.size, 3, none⟩ = some bl := bsome HB2.out (by simp [go_sem])
    have x4 : w2.cell? ⟨w.heap.size, 4, none⟩ = some (.slice (some ⟨g, o, none⟩) p.length cc) := bsome HB2.out (by simp [go_sem])
    clear hb2 hc1 hf1 CL
    by_cases bH : Pa.isI p ((j : Int) + 1) = true
    · have CH := hide (fun w' => isIns_any ⟨g, o, cc, some ⟨g, o, none⟩, nm, vs, pr, bl, p⟩ ((j : Int) + 1) w')
      unfold Cp.v at CH
      dsimp only at CH
      rw [bH] at CH
      obtain ⟨bh0, bh1⟩ := Pa.isI_iff.1 bH
      have HV2 : Hid ((((j : Int) + 1).toNat : Int) = (j : Int) + 1) := hide (Int.toNat_of_nonneg bh0)
      have CC := hide (fun X w1 hi => HC.out.call X w1 [] ((j : Int) + 1).toNat [] (by rw [HON.out, one_no (.inr bL'), one_yes (by simpa using HNE.out) bH]; try rfl) hi)
      rw [HV2.out] at CC
      go_wp2_with fail
      refine (CH.out _).mono ?_
      rintro e w4 ⟨rfl, hb4⟩
      have B4 := hide (btrans B2.out hb4)
      have HI4 := hide (HC.out.past HI.out B4.out)
      clear CH hb4
      go_wp2_with fail
      refine (CC.out _ _ HI4.out).mono ?_
      rintro e w5 ⟨rfl, hi5, hk5⟩
      have K5 : Hid (Kx X w w5) := hide ((Kx.of_below B4.out).trans hk5)
      have I5 := hide hi5
      clear hi5 hk5 CC
      go_wp2
      go_end0
      refine ⟨rfl, ?_, K5.out⟩
      rw [HON.out, one_no (.inr bL'), one_yes (by simpa using HNE.out) bH]
      exact I5.out
    · have bH' : Pa.isI p ((j : Int) + 1) = false := by simpa using bH
      have CH := hide (fun w' => isIns_any ⟨g, o, cc, some ⟨g, o, none⟩, nm, vs, pr, bl, p⟩ ((j : Int) + 1) w')
      unfold Cp.v at CH
      dsimp only at CH
      rw [bH'] at CH
      go_wp2_with fail
      refine (CH.out _).mono ?_
      rintro e w4 ⟨rfl, hb4⟩
      have B4 := hide (btrans B2.out hb4)
      clear CH hb4
      go_wp2
      go_end0
      refine ⟨rfl, ?_, Kx.of_below B4.out⟩
      rw [HON.out, one_no (.inr bL'), one_no (.inr bH')]
      exact HC.out.past HI.out B4.out
set_option maxRecDepth 100000 in
set_option maxHeartbeats 2000000 in
theorem onwN_14_eq (g o cc : Nat) (nm vs pr bl : Value) (p : Pa.Pr) (j : Nat) (p1 : Value) (I : (Nat → Prop) → World → List Nat → Prop) (HC : Hid (Clo (Pa.on p j) I 20 [p1])) (X : Nat → Prop) (w : World) (HI : Hid (I X w [])) (hl : p.length ≤ 300) (hj : j < p.length) (to : Int)  (hlt : to = (j : Int) + 1)
   (u1 u2 u3 : Int) (u5 : ByteArray) (a6 : Option Addr) (n6 c6 : Nat) (a7 : Option Addr) (n7 c7 : Nat) (u8 u9 u10 : Int)
   (h0 : w.cell? ⟨g, o + j * 11, none⟩ = some (.int .i64 14))
   (h1 : w.cell? ⟨g, o + j * 11 + 1, none⟩ = some (.int .i64 u1)) (h2 : w.cell? ⟨g, o + j * 11 + 2, none⟩ = some (.int .i64 u2)) (h3 : w.cell? ⟨g, o + j * 11 + 3, none⟩ = some (.int .i64 u3))
   (h4 : w.cell? ⟨g, o + j * 11 + 4, none⟩ = some (.int .i64 to))
   (h5 : w.cell? ⟨g, o + j * 11 + 5, none⟩ = some (.string u5)) (h6 : w.cell? ⟨g, o + j * 11 + 6, none⟩ = some (.slice a6 n6 c6)) (h7 : w.cell? ⟨g, o + j * 11 + 7, none⟩ = some (.slice a7 n7 c7))
   (h8 : w.cell? ⟨g, o + j * 11 + 8, none⟩ = some (.int .i64 u8)) (h9 : w.cell? ⟨g, o + j * 11 + 9, none⟩ = some (.int .i64 u9)) (h10 : w.cell? ⟨g, o + j * 11 + 10, none⟩ = some (.int .i64 u10)) (hx : p[j]? = some (14, to)) :
    Calls Try.prog 19 #[.agg #[nm, vs, pr, bl, .slice (some ⟨g, o, none⟩) p.length cc], .int .i64 j, .func (.func 20) #[] #[p1]] w fun e w' => e = .returned (.tuple #[]) ∧ I X w' (Pa.on p j) ∧ Kx X w w' := by
  subst hlt
  have hgl : g < w.heap.size := World.block_lt_of_cell? _ _ h0
  have e0 : Pa.isI p j = true := Pa.isI_iff.2 ⟨by omega, by omega⟩
  have C0 := hide (fun w' => isIns_any ⟨g, o, cc, some ⟨g, o, none⟩, nm, vs, pr, bl, p⟩ j w')
  unfold Cp.v at C0
  dsimp only at C0
  rw [e0] at C0
  have HON : Hid (Pa.on p j = Pa.one p true ((j : Int) + 1) ++ Pa.one p ((j : Int) + 1 != (j : Int) + 1) ((j : Int) + 1)) := by
    have e1 : Pa.lo (14, (j : Int) + 1) j = (j : Int) + 1 := by show min ((j : Int) + 1) _ = _; omega
    have e2 : Pa.hi (14, (j : Int) + 1) j = (j : Int) + 1 := by show max ((j : Int) + 1) _ = _; omega
    have := on_at hx (by simp) hj
    rw [e1, e2] at this
    exact this
  clear hx
  go_enter Try.func19, Try.ntmps19
  go_wp2_with fail
  refine (C0.out _).mono ?_
  rintro e w1 ⟨rfl, hb1⟩
  obtain ⟨hc1, hf1⟩ := bcell hb1
  have hz1 : w.heap.size < w1.heap.size := by have := hb1.size; simp at this; omega
  have hg1 : g < w1.heap.size := by omega
  by_cases bL : Pa.isI p ((j : Int) + 1) = true
  · have CL := hide (fun w' => isIns_any ⟨g, o, cc, some ⟨g, o, none⟩, nm, vs, pr, bl, p⟩ ((j : Int) + 1) w')
    unfold Cp.v at CL
    dsimp only at CL
    rw [bL] at CL
    obtain ⟨bl0, bl1⟩ := Pa.isI_iff.1 bL
    have HV : Hid ((((j : Int) + 1).toNat : Int) = (j : Int) + 1) := hide (Int.toNat_of_nonneg bl0)
    have CC := hide (fun X w1 hi => HC.out.call X w1 [] ((j : Int) + 1).toNat (Pa.one p ((j : Int) + 1 != (j : Int) + 1) ((j : Int) + 1)) (by rw [HON.out, one_yes rfl bL]; rfl) hi)
    rw [HV.out] at CC
    go_wp2_with fail
    refine (CL.out _).mono ?_
    rintro e w2 ⟨rfl, hb2⟩
    have HB2 : Hid (Below (w.alloc (.cells #[nm, vs, pr, bl, .slice (some ⟨g, o, none⟩) p.length cc] 26)).heap.size (w.alloc (.cells #[nm, vs, pr, bl, .slice (some ⟨g, o, none⟩) p.length cc] 26)) w2) := hide (btrans (hb1.alloc hb1.size _) hb2)
    have HI2 := hide (HC.out.grow X w w2 [] HI.out (btrans ((Below.refl _ _).alloc (Nat.le_refl _) _) HB2.out))
    have hz2 : w.heap.size < w2.heap.size := by have := HB2.out.size; simp at this; omega
    clear hb2 hc1 hf1 CL
    go_wp2_with fail
    refine (CC.out _ _ HI2.out).mono ?_
    rintro e w3 ⟨rfl, hi3, hk3⟩
    have box : ∀ (o' : Nat) u, (w.alloc (.cells #[nm, vs, pr, bl, .slice (some ⟨g, o, none⟩) p.length cc] 26)).cell? ⟨w.heap.size, o', none⟩ = some u → w3.cell? ⟨w.heap.size, o', none⟩ = some u :=
      fun o' u hu => hk3.cell (bsome HB2.out hu) (.inr ⟨Nat.le_refl _, hz2⟩)
    have x0 := box 0 nm (by simp [go_sem])
    have x1 := box 1 vs (by simp [go_sem])
    have x2 := box 2 pr (by simp [go_sem])
    have x3 := box 3 bl (by simp [go_sem])
    have x4 := box 4 (.slice (some ⟨g, o, none⟩) p.length cc) (by simp [go_sem])
    have K3 : Hid (Kx X w w3) := hide ((Kx.of_below (btrans ((Below.refl _ _).alloc (Nat.le_refl _) _) HB2.out)).trans (hk3.mono (fun k _ hx => .inl hx)))
    have I3 := hide hi3
    clear box hk3 hi3 CC
    go_wp2
    go_end0
    refine ⟨rfl, ?_, K3.out⟩
    rw [HON.out, one_yes rfl bL, one_no (.inl (by simp))]
    exact HC.out.less _ _ _ _ (fun _ hx => .inl hx) I3.out
  · have bL' : Pa.isI p ((j : Int) + 1) = false := by simpa using bL
    have CL := hide (fun w' => isIns_any ⟨g, o, cc, some ⟨g, o, none⟩, nm, vs, pr, bl, p⟩ ((j : Int) + 1) w')
    unfold Cp.v at CL
    dsimp only at CL
    rw [bL'] at CL
    go_wp2_with fail
    refine (CL.out _).mono ?_
    rintro e w2 ⟨rfl, hb2⟩
    have HB2 : Hid (Below (w.alloc (.cells #[nm, vs, pr, bl, .slice (some ⟨g, o, none⟩) p.length cc] 26)).heap.size (w.alloc (.cells #[nm, vs, pr, bl, .slice (some ⟨g, o, none⟩) p.length cc] 26)) w2) := hide (btrans (hb1.alloc hb1.size _) hb2)
    have B2 : Hid (Below w.heap.size w w2) := hide (btrans ((Below.refl _ _).alloc (Nat.le_refl _) _) HB2.out)
    have x0 : w2.cell? ⟨w.heap.size, 0, none⟩ = some nm := bsome HB2.out (by simp [go_sem])
    have x1 : w2.cell? ⟨w.heap.size, 1, none⟩ = some vs := bsome HB2.out (by simp [go_sem])
    have x2 : w2.cell? ⟨w.heap.size, 2, none⟩ = some pr := bsome HB2.out (by simp [go_sem])
    have x3 : w2.cell? ⟨w.heap.size, 3, none⟩ = some bl := bsome HB2.out (by simp [go_sem])
    have x4 : w2.cell? ⟨w.heap.size, 4, none⟩ = some (.slice (some ⟨g, o, none⟩) p.length cc) := bsome HB2.out (by simp [go_sem])
    clear hb2 hc1 hf1 CL
    go_wp2
    go_end0
    refine ⟨rfl, ?_, Kx.of_below B2.out⟩
    rw [HON.out, one_no (.inr bL'), one_no (.inl (by simp))]
    exact HC.out.past HI.out B2.out
set_option maxRecDepth 100000 in
set_option maxHeartbeats 2000000 in
theorem onwN_13_lt (g o cc : Nat) (nm vs pr bl : Value) (p : Pa.Pr) (j : Nat) (p1 : Value) (I : (Nat → Prop) → World → List Nat → Prop) (HC : Hid (Clo (Pa.on p j) I 20 [p1])) (X : Nat → Prop) (w : World) (HI : Hid (I X w [])) (hl : p.length ≤ 300) (hj : j < p.length) (to : Int)  (hlt : (j : Int) + 1 < to)
   (u1 u2 u3 : Int) (u5 : ByteArray) (a6 : Option Addr) (n6 c6 : Nat) (a7 : Option Addr) (n7 c7 : Nat) (u8 u9 u10 : Int)
   (h0 : w.cell? ⟨g, o + j * 11, none⟩ = some (.int .i64 13))
   (h1 : w.cell? ⟨g, o + j * 11 + 1, none⟩ = some (.int .i64 u1)) (h2 : w.cell? ⟨g, o + j * 11 + 2, none⟩ = some (.int .i64 u2)) (h3 : w.cell? ⟨g, o + j * 11 + 3, none⟩ = some (.int .i64 u3))
   (h4 : w.cell? ⟨g, o + j * 11 + 4, none⟩ = some (.int .i64 to))
   (h5 : w.cell? ⟨g, o + j * 11 + 5, none⟩ = some (.string u5)) (h6 : w.cell? ⟨g, o + j * 11 + 6, none⟩ = some (.slice a6 n6 c6)) (h7 : w.cell? ⟨g, o + j * 11 + 7, none⟩ = some (.slice a7 n7 c7))
   (h8 : w.cell? ⟨g, o + j * 11 + 8, none⟩ = some (.int .i64 u8)) (h9 : w.cell? ⟨g, o + j * 11 + 9, none⟩ = some (.int .i64 u9)) (h10 : w.cell? ⟨g, o + j * 11 + 10, none⟩ = some (.int .i64 u10)) (hx : p[j]? = some (13, to)) :
    Calls Try.prog 19 #[.agg #[nm, vs, pr, bl, .slice (some ⟨g, o, none⟩) p.length cc], .int .i64 j, .func (.func 20) #[] #[p1]] w fun e w' => e = .returned (.tuple #[]) ∧ I X w' (Pa.on p j) ∧ Kx X w w' := by
  have hgl : g < w.heap.size := World.block_lt_of_cell? _ _ h0
  have e0 : Pa.isI p j = true := Pa.isI_iff.2 ⟨by omega, by omega⟩
  have C0 := hide (fun w' => isIns_any ⟨g, o, cc, some ⟨g, o, none⟩, nm, vs, pr, bl, p⟩ j w')
  unfold Cp.v at C0
  dsimp only at C0
  rw [e0] at C0
  have HON : Hid (Pa.on p j = Pa.one p true ((j : Int) + 1) ++ Pa.one p (to != (j : Int) + 1) (to)) := by
    have e1 : Pa.lo (13, to) j = (j : Int) + 1 := by show min ((j : Int) + 1) _ = _; omega
    have e2 : Pa.hi (13, to) j = to := by show max ((j : Int) + 1) _ = _; omega
    have := on_at hx (by simp) hj
    rw [e1, e2] at this
    exact this
  have HNE : Hid ((to) ≠ (j : Int) + 1) := hide (by omega)
  clear hx
  go_enter Try.func19, Try.ntmps19
  go_wp2_with fail
  refine (C0.out _).mono ?_
  rintro e w1 ⟨rfl, hb1⟩
  obtain ⟨hc1, hf1⟩ := bcell hb1
  have hz1 : w.heap.size < w1.heap.size := by have := hb1.size; simp at this; omega
  have hg1 : g < w1.heap.size := by omega
  by_cases bL : Pa.isI p ((j : Int) + 1) = true
  · have CL := hide (fun w' => isIns_any ⟨g, o, cc, some ⟨g, o, none⟩, nm, vs, pr, bl, p⟩ ((j : Int) + 1) w')
    unfold Cp.v at CL
    dsimp only at CL
    rw [bL] at CL
    obtain ⟨bl0, bl1⟩ := Pa.isI_iff.1 bL
    have HV : Hid ((((j : Int) + 1).toNat : Int) = (j : Int) + 1) := hide (Int.toNat_of_nonneg bl0)
    have CC := hide (fun X w1 hi => HC.out.call X w1 [] ((j : Int) + 1).toNat (Pa.one p (to != (j : Int) + 1) (to)) (by rw [HON.out, one_yes rfl bL]; rfl) hi)
    rw [HV.out] at CC
    go_wp2_with fail
    refine (CL.out _).mono ?_
    rintro e w2 ⟨rfl, hb2⟩
    have HB2 : Hid (Below (w.alloc (.cells #[nm, vs, pr, bl, .slice (some ⟨g, o, none⟩) p.length cc] 26)).heap.size (w.alloc (.cells #[nm, vs, pr, bl, .slice (some ⟨g, o, none⟩) p.length cc] 26)) w2) := hide (btrans (hb1.alloc hb1.size _) hb2)
    have HI2 := hide (HC.out.grow X w w2 [] HI.out (btrans ((Below.refl _ _).alloc (Nat.le_refl _) _) HB2.out))
    have hz2 : w.heap.size < w2.heap.size := by have := HB2.out.size; simp at this; omega
    clear hb2 hc1 hf1 CL
    go_wp2_with fail
    refine (CC.out _ _ HI2.out).mono ?_
    rintro e w3 ⟨rfl, hi3, hk3⟩
    have box : ∀ (o' : Nat) u, (w.alloc (.cells #[nm, vs, pr, bl, .slice (some ⟨g, o, none⟩) p.length cc] 26)).cell? ⟨w.heap.size, o', none⟩ = some u → w3.cell? ⟨w.heap.size, o', none⟩ = some u :=
      fun o' u hu => hk3.cell (bsome HB2.out hu) (.inr ⟨Nat.le_refl _, hz2⟩)
    have x0 := box 0 nm (by simp [go_sem])
    have x1 := box 1 vs (by simp [go_sem])
    have x2 := box 2 pr (by simp [go_sem])
    have x3 := box 3 bl (by simp [go_sem])
    have x4 := box 4 (.slice (some ⟨g, o, none⟩) p.length cc) (by simp [go_sem])
    have K3 : Hid (Kx X w w3) := hide ((Kx.of_below (btrans ((Below.refl _ _).alloc (Nat.le_refl _) _) HB2.out)).trans (hk3.mono (fun k _ hx => .inl hx)))
    have I3 := hide hi3
    clear box hk3 hi3 CC
    by_cases bH : Pa.isI p (to) = true
    · have CH := hide (fun w' => isIns_any ⟨g, o, cc, some ⟨g, o, none⟩, nm, vs, pr, bl, p⟩ (to) w')
      unfold Cp.v at CH
      dsimp only at CH
      rw [bH] at CH
      obtain ⟨bh0, bh1⟩ := Pa.isI_iff.1 bH
      have HV2 : Hid (((to).toNat : Int) = to) := hide (Int.toNat_of_nonneg bh0)
      have CC := hide (fun X w1 hi => HC.out.call X w1 ([] ++ [((j : Int) + 1).toNat]) (to).toNat [] (by rw [HON.out, one_yes rfl bL, one_yes (by simpa using HNE.out) bH]; try rfl) hi)
      rw [HV2.out] at CC
      go_wp2_with fail
      refine (CH.out _).mono ?_
      rintro e w4 ⟨rfl, hb4⟩
      have HI4 := hide (HC.out.past I3.out hb4)
      have K4 : Hid (Kx X w w4) := hide (K3.out.trans (Kx.of_below hb4))
      clear CH hb4
      go_wp2_with fail
      refine (CC.out _ _ HI4.out).mono ?_
      rintro e w5 ⟨rfl, hi5, hk5⟩
      have K5 : Hid (Kx X w w5) := hide (K4.out.trans (hk5.mono (fun k _ hx => .inl hx)))
      have I5 := hide hi5
      clear hi5 hk5 CC
      go_wp2
      go_end0
      refine ⟨rfl, ?_, K5.out⟩
      rw [HON.out, one_yes rfl bL, one_yes (by simpa using HNE.out) bH]
      exact HC.out.less _ _ _ _ (fun _ hx => .inl hx) I5.out
    · have bH' : Pa.isI p (to) = false := by simpa using bH
      have CH := hide (fun w' => isIns_any ⟨g, o, cc, some ⟨g, o, none⟩, nm, vs, pr, bl, p⟩ (to) w')
      unfold Cp.v at CH
      dsimp only at CH
      rw [bH'] at CH
      go_wp2_with fail
      refine (CH.out _).mono ?_
      rintro e w4 ⟨rfl, hb4⟩
      have HI4 := hide (HC.out.past I3.out hb4)
      have K4 : Hid (Kx X w w4) := hide (K3.out.trans (Kx.of_below hb4))
      clear CH hb4
      go_wp2
      go_end0
      refine ⟨rfl, ?_, K4.out⟩
      rw [HON.out, one_yes rfl bL, one_no (.inr bH')]
      exact HC.out.less _ _ _ _ (fun _ hx => .inl hx) HI4.out
  · have bL' : Pa.isI p ((j : Int) + 1) = false := by simpa using bL
    have CL := hide (fun w' => isIns_any ⟨g, o, cc, some ⟨g, o, none⟩, nm, vs, pr, bl, p⟩ ((j : Int) + 1) w')
    unfold Cp.v at CL
    dsimp only at CL
    rw [bL'] at CL
    go_wp2_with fail
    refine (CL.out _).mono ?_
    rintro e w2 ⟨rfl, hb2⟩
    have HB2 : Hid (Below (w.alloc (.cells #[nm, vs, pr, bl, .slice (some ⟨g, o, none⟩) p.length cc] 26)).heap.size (w.alloc (.cells #[nm, vs, pr, bl, .slice (some ⟨g, o, none⟩) p.length cc] 26)) w2) := hide (btrans (hb1.alloc hb1.size _) hb2)
    have B2 : Hid (Below w.heap.size w w2) := hide (btrans ((Below.refl _ _).alloc (Nat.le_refl _) _) HB2.out)
    have x0 : w2.cell? ⟨w.heap.size, 0, none⟩ = some nm := bsome HB2.out (by simp [go_sem])
    have x1 : w2.cell? ⟨w.heap.size, 1, none⟩ = some vs := bsome HB2.out (by simp [go_sem])
    have x2 : w2.cell? ⟨w.heap.size, 2, none⟩ = some pr := bsome HB2.out (by simp [go_sem])
    have x3 : w2.cell? ⟨w.heap.size, 3, none⟩ = some bl := bsome HB2.out (by simp [go_sem])
    have x4 : w2.cell? ⟨w.heap.size, 4, none⟩ = some (.slice (some ⟨g, o, none⟩) p.length cc) := bsome HB2.out (by simp [go_sem])
    clear hb2 hc1 hf1 CL
    by_cases bH : Pa.isI p (to) = true
    · have CH := hide (fun w' => isIns_any ⟨g, o, cc, some ⟨g, o, none⟩, nm, vs, pr, bl, p⟩ (to) w')
      unfold Cp.v at CH
      dsimp only at CH
      rw [bH] at CH
      obtain ⟨bh0, bh1⟩ := Pa.isI_iff.1 bH
      have HV2 : Hid (((to).toNat : Int) = to) := hide (Int.toNat_of_nonneg bh0)
      have CC := hide (fun X w1 hi => HC.out.call X w1 [] (to).toNat [] (by rw [HON.out, one_no (.inr bL'), one_yes (by simpa using HNE.out) bH]; try rfl) hi)
      rw [HV2.out] at CC
      go_wp2_with fail
      refine (CH.out _).mono ?_
      rintro e w4 ⟨rfl, hb4⟩
      have B4 := hide (btrans B2.out hb4)
      have HI4 := hide (HC.out.past HI.out B4.out)
      clear CH hb4
      go_wp2_with fail
      refine (CC.out _ _ HI4.out).mono ?_
      rintro e w5 ⟨rfl, hi5, hk5⟩
      have K5 : Hid (Kx X w w5) := hide ((Kx.of_below B4.out).trans hk5)
      have I5 := hide hi5
      clear hi5 hk5 CC
      go_wp2
      go_end0
      refine ⟨rfl, ?_, K5.out⟩
      rw [HON.out, one_no (.inr bL'), one_yes (by simpa using HNE.out) bH]
      exact I5.out
    · have bH' : Pa.isI p (to) = false := by simpa using bH
      have CH := hide (fun w' => isIns_any ⟨g, o, cc, some ⟨g, o, none⟩, nm, vs, pr, bl, p⟩ (to) w')
      unfold Cp.v at CH
      dsimp only at CH
      rw [bH'] at CH
      go_wp2_with fail
      refine (CH.out _).mono ?_
      rintro e w4 ⟨rfl, hb4⟩
      have B4 := hide (btrans B2.out hb4)
      clear CH hb4
      go_wp2
      go_end0
      refine ⟨rfl, ?_, Kx.of_below B4.out⟩
      rw [HON.out, one_no (.inr bL'), one_no (.inr bH')]
      exact HC.out.past HI.out B4.out
set_option maxRecDepth 100000 in
set_option maxHeartbeats 2000000 in
theorem onwN_13_gt (g o cc : Nat) (nm vs pr bl : Value) (p : Pa.Pr) (j : Nat) (p1 : Value) (I : (Nat → Prop) → World → List Nat → Prop) (HC : Hid (Clo (Pa.on p j) I 20 [p1])) (X : Nat → Prop) (w : World) (HI : Hid (I X w [])) (hl : p.length ≤ 300) (hj : j < p.length) (to : Int)  (hlt : to < (j : Int) + 1)
   (u1 u2 u3 : Int) (u5 : ByteArray) (a6 : Option Addr) (n6 c6 : Nat) (a7 : Option Addr) (n7 c7 : Nat) (u8 u9 u10 : Int)
   (h0 : w.cell? ⟨g, o + j * 11, none⟩ = some (.int .i64 13))
   (h1 : w.cell? ⟨g, o + j * 11 + 1, none⟩ = some (.int .i64 u1)) (h2 : w.cell? ⟨g, o + j * 11 + 2, none⟩ = some (.int .i64 u2)) (h3 : w.cell? ⟨g, o + j * 11 + 3, none⟩ = some (.int .i64 u3))
   (h4 : w.cell? ⟨g, o + j * 11 + 4, none⟩ = some (.int .i64 to))
   (h5 : w.cell? ⟨g, o + j * 11 + 5, none⟩ = some (.string u5)) (h6 : w.cell? ⟨g, o + j * 11 + 6, none⟩ = some (.slice a6 n6 c6)) (h7 : w.cell? ⟨g, o + j * 11 + 7, none⟩ = some (.slice a7 n7 c7))
   (h8 : w.cell? ⟨g, o + j * 11 + 8, none⟩ = some (.int .i64 u8)) (h9 : w.cell? ⟨g, o + j * 11 + 9, none⟩ = some (.int .i64 u9)) (h10 : w.cell? ⟨g, o + j * 11 + 10, none⟩ = some (.int .i64 u10)) (hx : p[j]? = some (13, to)) :
    Calls Try.prog 19 #[.agg #[nm, vs, pr, bl, .slice (some ⟨g, o, none⟩) p.length cc], .int .i64 j, .func (.func 20) #[] #[p1]] w fun e w' => e = .returned (.tuple #[]) ∧ I X w' (Pa.on p j) ∧ Kx X w w' := by
  have hgl : g < w.heap.size := World.block_lt_of_cell? _ _ h0
  have e0 : Pa.isI p j = true := Pa.isI_iff.2 ⟨by omega, by omega⟩
  have C0 := hide (fun w' => isIns_any ⟨g, o, cc, some ⟨g, o, none⟩, nm, vs, pr, bl, p⟩ j w')
  unfold Cp.v at C0
  dsimp only at C0
  rw [e0] at C0
  have HON : Hid (Pa.on p j = Pa.one p true (to) ++ Pa.one p ((j : Int) + 1 != to) ((j : Int) + 1)) := by
    have e1 : Pa.lo (13, to) j = to := by show min ((j : Int) + 1) _ = _; omega
    have e2 : Pa.hi (13, to) j = (j : Int) + 1 := by show max ((j : Int) + 1) _ = _; omega
    have := on_at hx (by simp) hj
    rw [e1, e2] at this
    exact this
  have HNE : Hid (((j : Int) + 1) ≠ to) := hide (by omega)
  clear hx
  go_enter Try.func19, Try.ntmps19
  go_wp2_with fail
  refine (C0.out _).mono ?_
  rintro e w1 ⟨rfl, hb1⟩
  obtain ⟨hc1, hf1⟩ := bcell hb1
  have hz1 : w.heap.size < w1.heap.size := by have := hb1.size; simp at this; omega
  have hg1 : g < w1.heap.size := by omega
  by_cases bL : Pa.isI p (to) = true
  · have CL := hide (fun w' => isIns_any ⟨g, o, cc, some ⟨g, o, none⟩, nm, vs, pr, bl, p⟩ (to) w')
    unfold Cp.v at CL
    dsimp only at CL
    rw [bL] at CL
    obtain ⟨bl0, bl1⟩ := Pa.isI_iff.1 bL
    have HV : Hid (((to).toNat : Int) = to) := hide (Int.toNat_of_nonneg bl0)
    have CC := hide (fun X w1 hi => HC.out.call X w1 [] (to).toNat (Pa.one p ((j : Int) + 1 != to) ((j : Int) + 1)) (by rw [HON.out, one_yes rfl bL]; rfl) hi)
    rw [HV.out] at CC
    go_wp2_with fail
    refine (CL.out _).mono ?_
    rintro e w2 ⟨rfl, hb2⟩
    have HB2 : Hid (Below (w.alloc (.cells #[nm, vs, pr, bl, .slice (some ⟨g, o, none⟩) p.length cc] 26)).heap.size (w.alloc (.cells #[nm, vs, pr, bl, .slice (some ⟨g, o, none⟩) p.length cc] 26)) w2) := hide (btrans (hb1.alloc hb1.size _) hb2)
    have HI2 := hide (HC.out.grow X w w2 [] HI.out (btrans ((Below.refl _ _).alloc (Nat.le_refl _) _) HB2.out))
    have hz2 : w.heap.size < w2.heap.size := by have := HB2.out.size; simp at this; omega
    clear hb2 hc1 hf1 CL
    go_wp2_with fail
    refine (CC.out _ _ HI2.out).mono ?_
    rintro e w3 ⟨rfl, hi3, hk3⟩
    have box : ∀ (o' : Nat) u, (w.alloc (.cells #[nm, vs, pr, bl, .slice (some ⟨g, o, none⟩) p.length cc] 26)).cell? ⟨w.heap.size, o', none⟩ = some u → w3.cell? ⟨w.heap.size, o', none⟩ = some u :=
      fun o' u hu => hk3.cell (bsome HB2.out hu) (.inr ⟨Nat.le_refl _, hz2⟩)
    have x0 := box 0 nm (by simp [go_sem])
    have x1 := box 1 vs (by simp [go_sem])
    have x2 := box 2 pr (by simp [go_sem])
    have x3 := box 3 bl (by simp [go_sem])
    have x4 := box 4 (.slice (some ⟨g, o, none⟩) p.length cc) (by simp [go_sem])
    have K3 : Hid (Kx X w w3) := hide ((Kx.of_below (btrans ((Below.refl _ _).alloc (Nat.le_refl _) _) HB2.out)).trans (hk3.mono (fun k _ hx => .inl hx)))
    have I3 := hide hi3
    clear box hk3 hi3 CC
    by_cases bH : Pa.isI p ((j : Int) + 1) = true
    · have CH := hide (fun w' => isIns_any ⟨g, o, cc, some ⟨g, o, none⟩, nm, vs, pr, bl, p⟩ ((j : Int) + 1) w')
      unfold Cp.v at CH
      dsimp only at CH
      rw [bH] at CH
      obtain ⟨bh0, bh1⟩ := Pa.isI_iff.1 bH
      have HV2 : Hid ((((j : Int) + 1).toNat : Int) = (j : Int) + 1) := hide (Int.toNat_of_nonneg bh0)
      have CC := hide (fun X w1 hi => HC.out.call X w1 ([] ++ [(to).toNat]) ((j : Int) + 1).toNat [] (by rw [HON.out, one_yes rfl bL, one_yes (by simpa using HNE.out) bH]; try rfl) hi)
      rw [HV2.out] at CC
      go_wp2_with fail
      refine (CH.out _).mono ?_
      rintro e w4 ⟨rfl, hb4⟩
      have HI4 := hide (HC.out.past I3.out hb4)
      have K4 : Hid (Kx X w w4) := hide (K3.out.trans (Kx.of_below hb4))
      clear CH hb4
      go_wp2_with fail
      refine (CC.out _ _ HI4.out).mono ?_
      rintro e w5 ⟨rfl, hi5, hk5⟩
      have K5 : Hid (Kx X w w5) := hide (K4.out.trans (hk5.mono (fun k _ hx => .inl hx)))
      have I5 := hide hi5
      clear hi5 hk5 CC
      go_wp2
      go_end0
      refine ⟨rfl, ?_, K5.out⟩
      rw [HON.out, one_yes rfl bL, one_yes (by simpa using HNE.out) bH]
      exact HC.out.less _ _ _ _ (fun _ hx => .inl hx) I5.out
    · have bH' : Pa.isI p ((j : Int) + 1) = false := by simpa using bH
      have CH := hide (fun w' => isIns_any ⟨g, o, cc, some ⟨g, o, none⟩, nm, vs, pr, bl, p⟩ ((j : Int) + 1) w')
      unfold Cp.v at CH
      dsimp only at CH
      rw [bH'] at CH
      go_wp2_with fail
      refine (CH.out _).mono ?_
      rintro e w4 ⟨rfl, hb4⟩
      have HI4 := hide (HC.out.past I3.out hb4)
      have K4 : Hid (Kx X w w4) := hide (K3.out.trans (Kx.of_below hb4))
      clear CH hb4
      go_wp2
      go_end0
      refine ⟨rfl, ?_, K4.out⟩
      rw [HON.out, one_yes rfl bL, one_no (.inr bH')]
      exact HC.out.less _ _ _ _ (fun _ hx => .inl hx) HI4.out
  · have bL' : Pa.isI p (to) = false := by simpa using bL
    have CL := hide (fun w' => isIns_any ⟨g, o, cc, some ⟨g, o, none⟩, nm, vs, pr, bl, p⟩ (to) w')
    unfold Cp.v at CL
    dsimp only at CL
    rw [bL'] at CL
    go_wp2_with fail
    refine (CL.out _).mono ?_
    rintro e w2 ⟨rfl, hb2⟩
    have HB2 : Hid (Below (w.alloc (.cells #[nm, vs, pr, bl, .slice (some ⟨g, o, none⟩) p.length cc] 26)).heap.size (w.alloc (.cells #[nm, vs, pr, bl, .slice (some ⟨g, o, none⟩) p.length cc] 26)) w2) := hide (btrans (hb1.alloc hb1.size _) hb2)
    have B2 : Hid (Below w.heap.size w w2) := hide (btrans ((Below.refl _ _).alloc (Nat.le_refl _) _) HB2.out)
    have x0 : w2.cell? ⟨w.heap.size, 0, none⟩ = some nm := bsome HB2.out (by simp [go_sem])
    have x1 : w2.cell? ⟨w.heap.size, 1, none⟩ = some vs := bsome HB2.out (by simp [go_sem])
    have x2 : w2.cell? ⟨w.heap.size, 2, none⟩ = some pr := bsome HB2.out (by simp [go_sem])
    have x3 : w2.cell? ⟨w.heap.size, 3, none⟩ = some bl := bsome HB2.out (by simp [go_sem])
    have x4 : w2.cell? ⟨w.heap.size, 4, none⟩ = some (.slice (some ⟨g, o, none⟩) p.length cc) := bsome HB2.out (by simp [go_sem])
    clear hb2 hc1 hf1 CL
    by_cases bH : Pa.isI p ((j : Int) + 1) = true
    · have CH := hide (fun w' => isIns_any ⟨g, o, cc, some ⟨g, o, none⟩, nm, vs, pr, bl, p⟩ ((j : Int) + 1) w')
      unfold Cp.v at CH
      dsimp only at CH
      rw [bH] at CH
      obtain ⟨bh0, bh1⟩ := Pa.isI_iff.1 bH
      have HV2 : Hid ((((j : Int) + 1).toNat : Int) = (j : Int) + 1) := hide (Int.toNat_of_nonneg bh0)
      have CC := hide (fun X w1 hi => HC.out.call X w1 [] ((j : Int) + 1).toNat [] (by rw [HON.out, one_no (.inr bL'), one_yes (by simpa using HNE.out) bH]; try rfl) hi)
      rw [HV2.out] at CC
      go_wp2_with fail
      refine (CH.out _).mono ?_
      rintro e w4 ⟨rfl, hb4⟩
      have B4 := hide (btrans B2.out hb4)
      have HI4 := hide (HC.out.past HI.out B4.out)
      clear CH hb4
      go_wp2_with fail
      refine (CC.out _ _ HI4.out).mono ?_
      rintro e w5 ⟨rfl, hi5, hk5⟩
      have K5 : Hid (Kx X w w5) := hide ((Kx.of_below B4.out).trans hk5)
      have I5 := hide hi5
      clear hi5 hk5 CC
      go_wp2
      go_end0
      refine ⟨rfl, ?_, K5.out⟩
      rw [HON.out, one_no (.inr bL'), one_yes (by simpa using HNE.out) bH]
      exact I5.out
    · have bH' : Pa.isI p ((j : Int) + 1) = false := by simpa using bH
      have CH := hide (fun w' => isIns_any ⟨g, o, cc, some ⟨g, o, none⟩, nm, vs, pr, bl, p⟩ ((j : Int) + 1) w')
      unfold Cp.v at CH
      dsimp only at CH
      rw [bH'] at CH
      go_wp2_with fail
      refine (CH.out _).mono ?_
      rintro e w4 ⟨rfl, hb4⟩
      have B4 := hide (btrans B2.out hb4)
      clear CH hb4
      go_wp2
      go_end0
      refine ⟨rfl, ?_, Kx.of_below B4.out⟩
      rw [HON.out, one_no (.inr bL'), one_no (.inr bH')]
      exact HC.out.past HI.out B4.out
set_option maxRecDepth 100000 in
set_option maxHeartbeats 2000000 in
theorem onwN_13_eq (g o cc : Nat) (nm vs pr bl : Value) (p : Pa.Pr) (j : Nat) (p1 : Value) (I : (Nat → Prop) → World → List Nat → Prop) (HC : Hid (Clo (Pa.on p j) I 20 [p1])) (X : Nat → Prop) (w : World) (HI : Hid (I X w [])) (hl : p.length ≤ 300) (hj : j < p.length) (to : Int)  (hlt : to = (j : Int) + 1)
   (u1 u2 u3 : Int) (u5 : ByteArray) (a6 : Option Addr) (n6 c6 : Nat) (a7 : Option Addr) (n7 c7 : Nat) (u8 u9 u10 : Int)
   (h0 : w.cell? ⟨g, o + j * 11, none⟩ = some (.int .i64 13))
   (h1 : w.cell? ⟨g, o + j * 11 + 1, none⟩ = some (.int .i64 u1)) (h2 : w.cell? ⟨g, o + j * 11 + 2, none⟩ = some (.int .i64 u2)) (h3 : w.cell? ⟨g, o + j * 11 + 3, none⟩ = some (.int .i64 u3))
   (h4 : w.cell? ⟨g, o + j * 11 + 4, none⟩ = some (.int .i64 to))
   (h5 : w.cell? ⟨g, o + j * 11 + 5, none⟩ = some (.string u5)) (h6 : w.cell? ⟨g, o + j * 11 + 6, none⟩ = some (.slice a6 n6 c6)) (h7 : w.cell? ⟨g, o + j * 11 + 7, none⟩ = some (.slice a7 n7 c7))
   (h8 : w.cell? ⟨g, o + j * 11 + 8, none⟩ = some (.int .i64 u8)) (h9 : w.cell? ⟨g, o + j * 11 + 9, none⟩ = some (.int .i64 u9)) (h10 : w.cell? ⟨g, o + j * 11 + 10, none⟩ = some (.int .i64 u10)) (hx : p[j]? = some (13, to)) :
    Calls Try.prog 19 #[.agg #[nm, vs, pr, bl, .slice (some ⟨g, o, none⟩) p.length cc], .int .i64 j, .func (.func 20) #[] #[p1]] w fun e w' => e = .returned (.tuple #[]) ∧ I X w' (Pa.on p j) ∧ Kx X w w' := by
  subst hlt
  have hgl : g < w.heap.size := World.block_lt_of_cell? _ _ h0
  have e0 : Pa.isI p j = true := Pa.isI_iff.2 ⟨by omega, by omega⟩
  have C0 := hide (fun w' => isIns_any ⟨g, o, cc, some ⟨g, o, none⟩, nm, vs, pr, bl, p⟩ j w')
  unfold Cp.v at C0
  dsimp only at C0
  rw [e0] at C0
  have HON : Hid (Pa.on p j = Pa.one p true ((j : Int) + 1) ++ Pa.one p ((j : Int) + 1 != (j : Int) + 1) ((j : Int) + 1)) := by
    have e1 : Pa.lo (13, (j : Int) + 1) j = (j : Int) + 1 := by show min ((j : Int) + 1) _ = _; omega
    have e2 : Pa.hi (13, (j : Int) + 1) j = (j : Int) + 1 := by show max ((j : Int) + 1) _ = _; omega
    have := on_at hx (by simp) hj
    rw [e1, e2] at this
    exact this
  clear hx
  go_enter Try.func19, Try.ntmps19
  go_wp2_with fail
  refine (C0.out _).mono ?_
  rintro e w1 ⟨rfl, hb1⟩
  obtain ⟨hc1, hf1⟩ := bcell hb1
  have hz1 : w.heap.size < w1.heap.size := by have := hb1.size; simp at this; omega
  have hg1 : g < w1.heap.size := by omega
  by_cases bL : Pa.isI p ((j : Int) + 1) = true
  · have CL := hide (fun w' => isIns_any ⟨g, o, cc, some ⟨g, o, none⟩, nm, vs, pr, bl, p⟩ ((j : Int) + 1) w')
    unfold Cp.v at CL
    dsimp only at CL
    rw [bL] at CL
    obtain ⟨bl0, bl1⟩ := Pa.isI_iff.1 bL
    have HV : Hid ((((j : Int) + 1).toNat : Int) = (j : Int) + 1) := hide (Int.toNat_of_nonneg bl0)
    have CC := hide (fun X w1 hi => HC.out.call X w1 [] ((j : Int) + 1).toNat (Pa.one p ((j : Int) + 1 != (j : Int) + 1) ((j : Int) + 1)) (by rw [HON.out, one_yes rfl bL]; rfl) hi)
    rw [HV.out] at CC
    go_wp2_with fail
    refine (CL.out _).mono ?_
    rintro e w2 ⟨rfl, hb2⟩
    have HB2 : Hid (Below (w.alloc (.cells #[nm, vs, pr, bl, .slice (some ⟨g, o, none⟩) p.length cc] 26)).heap.size (w.alloc (.cells #[nm, vs, pr, bl, .slice (some ⟨g, o, none⟩) p.length cc] 26)) w2) := hide (btrans (hb1.alloc hb1.size _) hb2)
    have HI2 := hide (HC.out.grow X w w2 [] HI.out (btrans ((Below.refl _ _).alloc (Nat.le_refl _) _) HB2.out))
    have hz2 : w.heap.size < w2.heap.size := by have := HB2.out.size; simp at this; omega
    clear hb2 hc1 hf1 CL
    go_wp2_with fail
    refine (CC.out _ _ HI2.out).mono ?_
    rintro e w3 ⟨rfl, hi3, hk3⟩
    have box : ∀ (o' : Nat) u, (w.alloc (.cells #[nm, vs, pr, bl, .slice (some ⟨g, o, none⟩) p.length cc] 26)).cell? ⟨w.heap.size, o', none⟩ = some u → w3.cell? ⟨w.heap.size, o', none⟩ = some u :=
      fun o' u hu => hk3.cell (bsome HB2.out hu) (.inr ⟨Nat.le_refl _, hz2⟩)
    have x0 := box 0 nm (by simp [go_sem])
    have x1 := box 1 vs (by simp [go_sem])
    have x2 := box 2 pr (by simp [go_sem])
    have x3 := box 3 bl (by simp [go_sem])
    have x4 := box 4 (.slice (some ⟨g, o, none⟩) p.length cc) (by simp [go_sem])
    have K3 : Hid (Kx X w w3) := hide ((Kx.of_below (btrans ((Below.refl _ _).alloc (Nat.le_refl _) _) HB2.out)).trans (hk3.mono (fun k _ hx => .inl hx)))
    have I3 := hide hi3
    clear box hk3 hi3 CC
    go_wp2
    go_end0
    refine ⟨rfl, ?_, K3.out⟩
    rw [HON.out, one_yes rfl bL, one_no (.inl (by simp))]
    exact HC.out.less _ _ _ _ (fun _ hx => .inl hx) I3.out
  · have bL' : Pa.isI p ((j : Int) + 1) = false := by simpa using bL
    have CL := hide (fun w' => isIns_any ⟨g, o, cc, some ⟨g, o, none⟩, nm, vs, pr, bl, p⟩ ((j : Int) + 1) w')
    unfold Cp.v at CL
    dsimp only at CL
    rw [bL'] at CL
    go_wp2_with fail
    refine (CL.out _).mono ?_
    rintro e w2 ⟨rfl, hb2⟩
    have HB2 : Hid (Below (w.alloc (.cells #[nm, vs, pr, bl, .slice (some ⟨g, o, none⟩) p.length cc] 26)).heap.size (w.alloc (.cells #[nm, vs, pr, bl, .slice (some ⟨g, o, none⟩) p.length cc] 26)) w2) := hide (btrans (hb1.alloc hb1.size _) hb2)
    have B2 : Hid (Below w.heap.size w w2) := hide (btrans ((Below.refl _ _).alloc (Nat.le_refl _) _) HB2.out)
    have x0 : w2.cell? ⟨w.heap.size, 0, none⟩ = some nm := bsome HB2.out (by simp [go_sem])
    have x1 : w2.cell? ⟨w.heap.size, 1, none⟩ = some vs := bsome HB2.out (by simp [go_sem])
    have x2 : w2.cell? ⟨w.heap.size, 2, none⟩ = some pr := bsome HB2.out (by simp [go_sem])
    have x3 : w2.cell? ⟨w.heap.size, 3, none⟩ = some bl := bsome HB2.out (by simp [go_sem])
    have x4 : w2.cell? ⟨w.heap.size, 4, none⟩ = some (.slice (some ⟨g, o, none⟩) p.length cc) := bsome HB2.out (by simp [go_sem])
    clear hb2 hc1 hf1 CL
    go_wp2
    go_end0
    refine ⟨rfl, ?_, Kx.of_below B2.out⟩
    rw [HON.out, one_no (.inr bL'), one_no (.inl (by simp))]
    exact HC.out.past HI.out B2.out
set_option maxRecDepth 100000 in
set_option maxHeartbeats 2000000 in
theorem onwN_11_lt (g o cc : Nat) (nm vs pr bl : Value) (p : Pa.Pr) (j : Nat) (p1 : Value) (I : (Nat → Prop) → World → List Nat → Prop) (HC : Hid (Clo (Pa.on p j) I 20 [p1])) (X : Nat → Prop) (w : World) (HI : Hid (I X w [])) (hl : p.length ≤ 300) (hj : j < p.length) (to : Int)  (hlt : (j : Int) + 1 < to)
   (u1 u2 u3 : Int) (u5 : ByteArray) (a6 : Option Addr) (n6 c6 : Nat) (a7 : Option Addr) (n7 c7 : Nat) (u8 u9 u10 : Int)
   (h0 : w.cell? ⟨g, o + j * 11, none⟩ = some (.int .i64 11))
   (h1 : w.cell? ⟨g, o + j * 11 + 1, none⟩ = some (.int .i64 u1)) (h2 : w.cell? ⟨g, o + j * 11 + 2, none⟩ = some (.int .i64 u2)) (h3 : w.cell? ⟨g, o + j * 11 + 3, none⟩ = some (.int .i64 u3))
   (h4 : w.cell? ⟨g, o + j * 11 + 4, none⟩ = some (.int .i64 to))
   (h5 : w.cell? ⟨g, o + j * 11 + 5, none⟩ = some (.string u5)) (h6 : w.cell? ⟨g, o + j * 11 + 6, none⟩ = some (.slice a6 n6 c6)) (h7 : w.cell? ⟨g, o + j * 11 + 7, none⟩ = some (.slice a7 n7 c7))
   (h8 : w.cell? ⟨g, o + j * 11 + 8, none⟩ = some (.int .i64 u8)) (h9 : w.cell? ⟨g, o + j * 11 + 9, none⟩ = some (.int .i64 u9)) (h10 : w.cell? ⟨g, o + j * 11 + 10, none⟩ = some (.int .i64 u10)) (hx : p[j]? = some (11, to)) :
    Calls Try.prog 19 #[.agg #[nm, vs, pr, bl, .slice (some ⟨g, o, none⟩) p.length cc], .int .i64 j, .func (.func 20) #[] #[p1]] w fun e w' => e = .returned (.tuple #[]) ∧ I X w' (Pa.on p j) ∧ Kx X w w' := by
  have hgl : g < w.heap.size := World.block_lt_of_cell? _ _ h0
  have e0 : Pa.isI p j = true := Pa.isI_iff.2 ⟨by omega, by omega⟩
  have C0 := hide (fun w' => isIns_any ⟨g, o, cc, some ⟨g, o, none⟩, nm, vs, pr, bl, p⟩ j w')
  unfold Cp.v at C0
  dsimp only at C0
  rw [e0] at C0
  have HON : Hid (Pa.on p j = Pa.one p true ((j : Int) + 1) ++ Pa.one p (to != (j : Int) + 1) (to)) := by
    have e1 : Pa.lo (11, to) j = (j : Int) + 1 := by show min ((j : Int) + 1) _ = _; omega
    have e2 : Pa.hi (11, to) j = to := by show max ((j : Int) + 1) _ = _; omega
    have := on_at hx (by simp) hj
    rw [e1, e2] at this
    exact this
  have HNE : Hid ((to) ≠ (j : Int) + 1) := hide (by omega)
  clear hx
  go_enter Try.func19, Try.ntmps19
  go_wp2_with fail
  refine (C0.out _).mono ?_
  rintro e w1 ⟨rfl, hb1⟩
  obtain ⟨hc1, hf1⟩ := bcell hb1
  have hz1 : w.heap.size < w1.heap.size := by have := hb1.size; simp at this; omega
  have hg1 : g < w1.heap.size := by omega
  by_cases bL : Pa.isI p ((j : Int) + 1) = true
  · have CL := hide (fun w' => isIns_any ⟨g, o, cc, some ⟨g, o, none⟩, nm, vs, pr, bl, p⟩ ((j : Int) + 1) w')
    unfold Cp.v at CL
    dsimp only at CL
    rw [bL] at CL
    obtain ⟨bl0, bl1⟩ := Pa.isI_iff.1 bL
    have HV : Hid ((((j : Int) + 1).toNat : Int) = (j : Int) + 1) := hide (Int.toNat_of_nonneg bl0)
    have CC := hide (fun X w1 hi => HC.out.call X w1 [] ((j : Int) + 1).toNat (Pa.one p (to != (j : Int) + 1) (to)) (by rw [HON.out, one_yes rfl bL]; rfl) hi)
    rw [HV.out] at CC
    go_wp2_with fail
    refine (CL.out _).mono ?_
    rintro e w2 ⟨rfl, hb2⟩
    have HB2 : Hid (Below (w.alloc (.cells #[nm, vs, pr, bl, .slice (some ⟨g, o, none⟩) p.length cc] 26)).heap.size (w.alloc (.cells #[nm, vs, pr, bl, .slice (some ⟨g, o, none⟩) p.length cc] 26)) w2) := hide (btrans (hb1.alloc hb1.size _) hb2)
    have HI2 := hide (HC.out.grow X w w2 [] HI.out (btrans ((Below.refl _ _).alloc (Nat.le_refl _) _) HB2.out))
    have hz2 : w.heap.size < w2.heap.size := by have := HB2.out.size; simp at this; omega
    clear hb2 hc1 hf1 CL
    go_wp2_with fail
    refine (CC.out _ _ HI2.out).mono ?_
    rintro e w3 ⟨rfl, hi3, hk3⟩
    have box : ∀ (o' : Nat) u, (w.alloc (.cells #[nm, vs, pr, bl, .slice (some ⟨g, o, none⟩) p.length cc] 26)).cell? ⟨w.heap.size, o', none⟩ = some u → w3.cell? ⟨w.heap.size, o', none⟩ = some u :=
      fun o' u hu => hk3.cell (bsome HB2.out hu) (.inr ⟨Nat.le_refl _, hz2⟩)
    have x0 := box 0 nm (by simp [go_sem])
    have x1 := box 1 vs (by simp [go_sem])
    have x2 := box 2 pr (by simp [go_sem])
    have x3 := box 3 bl (by simp [go_sem])
    have x4 := box 4 (.slice (some ⟨g, o, none⟩) p.length cc) (by simp [go_sem])
    have K3 : Hid (Kx X w w3) := hide ((Kx.of_below (btrans ((Below.refl _ _).alloc (Nat.le_refl _) _) HB2.out)).trans (hk3.mono (fun k _ hx => .inl hx)))
    have I3 := hide hi3
    clear box hk3 hi3 CC
    by_cases bH : Pa.isI p (to) = true
    · have CH := hide (fun w' => isIns_any ⟨g, o, cc, some ⟨g, o, none⟩, nm, vs, pr, bl, p⟩ (to) w')
      unfold Cp.v at CH
      dsimp only at CH
      rw [bH] at CH
      obtain ⟨bh0, bh1⟩ := Pa.isI_iff.1 bH
      have HV2 : Hid (((to).toNat : Int) = to) := hide (Int.toNat_of_nonneg bh0)
      have CC := hide (fun X w1 hi => HC.out.call X w1 ([] ++ [((j : Int) + 1).toNat]) (to).toNat [] (by rw [HON.out, one_yes rfl bL, one_yes (by simpa using HNE.out) bH]; try rfl) hi)
      rw [HV2.out] at CC
      go_wp2_with fail
      refine (CH.out _).mono ?_
      rintro e w4 ⟨rfl, hb4⟩
      have HI4 := hide (HC.out.past I3.out hb4)
      have K4 : Hid (Kx X w w4) := hide (K3.out.trans (Kx.of_below hb4))
      clear CH hb4
      go_wp2_with fail
      refine (CC.out _ _ HI4.out).mono ?_
      rintro e w5 ⟨rfl, hi5, hk5⟩
      have K5 : Hid (Kx X w w5) := hide (K4.out.trans (hk5.mono (fun k _ hx => .inl hx)))
      have I5 := hide hi5
      clear hi5 hk5 CC
      go_wp2
      go_end0
      refine ⟨rfl, ?_, K5.out⟩
      rw [HON.out, one_yes rfl bL, one_yes (by simpa using HNE.out) bH]
      exact HC.out.less _ _ _ _ (fun _ hx => .inl hx) I5.out
    · have bH' : Pa.isI p (to) = false := by simpa using bH
      have CH := hide (fun w' => isIns_any ⟨g, o, cc, some ⟨g, o, none⟩, nm, vs, pr, bl, p⟩ (to) w')
      unfold Cp.v at CH
      dsimp only at CH
      rw [bH'] at CH
      go_wp2_with fail
      refine (CH.out _).mono ?_
      rintro e w4 ⟨rfl, hb4⟩
      have HI4 := hide (HC.out.past I3.out hb4)
      have K4 : Hid (Kx X w w4) := hide (K3.out.trans (Kx.of_below hb4))
      clear CH hb4
      go_wp2
      go_end0
      refine ⟨rfl, ?_, K4.out⟩
      rw [HON.out, one_yes rfl bL, one_no (.inr bH')]
      exact HC.out.less _ _ _ _ (fun _ hx => .inl hx) HI4.out
  · have bL' : Pa.isI p ((j : Int) + 1) = false := by simpa using bL
    have CL := hide (fun w' => isIns_any ⟨g, o, cc, some ⟨g, o, none⟩, nm, vs, pr, bl, p⟩ ((j : Int) + 1) w')
    unfold Cp.v at CL
    dsimp only at CL
    rw [bL'] at CL
    go_wp2_with fail
    refine (CL.out _).mono ?_
    rintro e w2 ⟨rfl, hb2⟩
    have HB2 : Hid (Below (w.alloc (.cells #[nm, vs, pr, bl, .slice (some ⟨g, o, none⟩) p.length cc] 26)).heap.size (w.alloc (.cells #[nm, vs, pr, bl, .slice (some ⟨g, o, none⟩) p.length cc] 26)) w2) := hide (btrans (hb1.alloc hb1.size _) hb2)
    have B2 : Hid (Below w.heap.size w w2) := hide (btrans ((Below.refl _ _).alloc (Nat.le_refl _) _) HB2.out)
    have x0 : w2.cell? ⟨w.heap.size, 0, none⟩ = some nm := bsome HB2.out (by simp [go_sem])
    have x1 : w2.cell? ⟨w.heap.size, 1, none⟩ = some vs := bsome HB2.out (by simp [go_sem])
    have x2 : w2.cell? ⟨w.heap.size, 2, none⟩ = some pr := bsome HB2.out (by simp [go_sem])
    have x3 : w2.cell? ⟨w.heap.size, 3, none⟩ = some bl := bsome HB2.out (by simp [go_sem])
    have x4 : w2.cell? ⟨w.heap.size, 4, none⟩ = some (.slice (some ⟨g, o, none⟩) p.length cc) := bsome HB2.out (by simp [go_sem])
    clear hb2 hc1 hf1 CL
    by_cases bH : Pa.isI p (to) = true
    · have CH := hide (fun w' => isIns_any ⟨g, o, cc, some ⟨g, o, none⟩, nm, vs, pr, bl, p⟩ (to) w')
      unfold Cp.v at CH
      dsimp only at CH
      rw [bH] at CH
      obtain ⟨bh0, bh1⟩ := Pa.isI_iff.1 bH
      have HV2 : Hid (((to).toNat : Int) = to) := hide (Int.toNat_of_nonneg bh0)
      have CC := hide (fun X w1 hi => HC.out.call X w1 [] (to).toNat [] (by rw [HON.out, one_no (.inr bL'), one_yes (by simpa using HNE.out) bH]; try rfl) hi)
      rw [HV2.out] at CC
      go_wp2_with fail
      refine (CH.out _).mono ?_
      rintro e w4 ⟨rfl, hb4⟩
      have B4 := hide (btrans B2.out hb4)
      have HI4 := hide (HC.out.past HI.out B4.out)
      clear CH hb4
      go_wp2_with fail
      refine (CC.out _ _ HI4.out).mono ?_
      rintro e w5 ⟨rfl, hi5, hk5⟩
      have K5 : Hid (Kx X w w5) := hide ((Kx.of_below B4.out).trans hk5)
      have I5 := hide hi5
      clear hi5 hk5 CC
      go_wp2
      go_end0
      refine ⟨rfl, ?_, K5.out⟩
      rw [HON.out, one_no (.inr bL'), one_yes (by simpa using HNE.out) bH]
      exact I5.out
    · have bH' : Pa.isI p (to) = false := by simpa using bH
      have CH := hide (fun w' => isIns_any ⟨g, o, cc, some ⟨g, o, none⟩, nm, vs, pr, bl, p⟩ (to) w')
      unfold Cp.v at CH
      dsimp only at CH
      rw [bH'] at CH
      go_wp2_with fail
      refine (CH.out _).mono ?_
      rintro e w4 ⟨rfl, hb4⟩
      have B4 := hide (btrans B2.out hb4)
      clear CH hb4
      go_wp2
      go_end0
      refine ⟨rfl, ?_, Kx.of_below B4.out⟩
      rw [HON.out, one_no (.inr bL'), one_no (.inr bH')]
      exact HC.out.past HI.out B4.out
set_option maxRecDepth 100000 in
set_option maxHeartbeats 2000000 in
theorem onwN_11_gt (g o cc : Nat) (nm vs pr bl : Value) (p : Pa.Pr) (j : Nat) (p1 : Value) (I : (Nat → Prop) → World → List Nat → Prop) (HC : Hid (Clo (Pa.on p j) I 20 [p1])) (X : Nat → Prop) (w : World) (HI : Hid (I X w [])) (hl : p.length ≤ 300) (hj : j < p.length) (to : Int)  (hlt : to < (j : Int) + 1)
   (u1 u2 u3 : Int) (u5 : ByteArray) (a6 : Option Addr) (n6 c6 : Nat) (a7 : Option Addr) (n7 c7 : Nat) (u8 u9 u10 : Int)
   (h0 : w.cell? ⟨g, o + j * 11, none⟩ = some (.int .i64 11))
   (h1 : w.cell? ⟨g, o + j * 11 + 1, none⟩ = some (.int .i64 u1)) (h2 : w.cell? ⟨g, o + j * 11 + 2, none⟩ = some (.int .i64 u2)) (h3 : w.cell? ⟨g, o + j * 11 + 3, none⟩ = some (.int .i64 u3))
   (h4 : w.cell? ⟨g, o + j * 11 + 4, none⟩ = some (.int .i64 to))
   (h5 : w.cell? ⟨g, o + j * 11 + 5, none⟩ = some (.string u5)) (h6 : w.cell? ⟨g, o + j * 11 + 6, none⟩ = some (.slice a6 n6 c6)) (h7 : w.cell? ⟨g, o + j * 11 + 7, none⟩ = some (.slice a7 n7 c7))
   (h8 : w.cell? ⟨g, o + j * 11 + 8, none⟩ = some (.int .i64 u8)) (h9 : w.cell? ⟨g, o + j * 11 + 9, none⟩ = some (.int .i64 u9)) (h10 : w.cell? ⟨g, o + j * 11 + 10, none⟩ = some (.int .i64 u10)) (hx : p[j]? = some (11, to)) :
    Calls Try.prog 19 #[.agg #[nm, vs, pr, bl, .slice (some ⟨g, o, none⟩) p.length cc], .int .i64 j, .func (.func 20) #[] #[p1]] w fun e w' => e = .returned (.tuple #[]) ∧ I X w' (Pa.on p j) ∧ Kx X w w' := by
  have hgl : g < w.heap.size := World.block_lt_of_cell? _ _ h0
  have e0 : Pa.isI p j = true := Pa.isI_iff.2 ⟨by omega, by omega⟩
  have C0 := hide (fun w' => isIns_any ⟨g, o, cc, some ⟨g, o, none⟩, nm, vs, pr, bl, p⟩ j w')
  unfold Cp.v at C0
  dsimp only at C0
  rw [e0] at C0
  have HON : Hid (Pa.on p j = Pa.one p true (to) ++ Pa.one p ((j : Int) + 1 != to) ((j : Int) + 1)) := by
    have e1 : Pa.lo (11, to) j = to := by show min ((j : Int) + 1) _ = _; omega
    have e2 : Pa.hi (11, to) j = (j : Int) + 1 := by show max ((j : Int) + 1) _ = _; omega
    have := on_at hx (by simp) hj
    rw [e1, e2] at this
    exact this
  have HNE : Hid (((j : Int) + 1) ≠ to) := hide (by omega)
  clear hx
  go_enter Try.func19, Try.ntmps19
  go_wp2_with fail
  refine (C0.out _).mono ?_
  rintro e w1 ⟨rfl, hb1⟩
  obtain ⟨hc1, hf1⟩ := bcell hb1
  have hz1 : w.heap.size < w1.heap.size := by have := hb1.size; simp at this; omega
  have hg1 : g < w1.heap.size := by omega
  by_cases bL : Pa.isI p (to) = true
  · have CL := hide (fun w' => isIns_any ⟨g, o, cc, some ⟨g, o, none⟩, nm, vs, pr, bl, p⟩ (to) w')
    unfold Cp.v at CL
    dsimp only at CL
    rw [bL] at CL
    obtain ⟨bl0, bl1⟩ := Pa.isI_iff.1 bL
    have HV : Hid (((to).toNat : Int) = to) := hide (Int.toNat_of_nonneg bl0)
    have CC := hide (fun X w1 hi => HC.out.call X w1 [] (to).toNat (Pa.one p ((j : Int) + 1 != to) ((j : Int) + 1)) (by rw [HON.out, one_yes rfl bL]; rfl) hi)
    rw [HV.out] at CC
    go_wp2_with fail
    refine (CL.out _).mono ?_
    rintro e w2 ⟨rfl, hb2⟩
    have HB2 : Hid (Below (w.alloc (.cells #[nm, vs, pr, bl, .slice (some ⟨g, o, none⟩) p.length cc] 26)).heap.size (w.alloc (.cells #[nm, vs, pr, bl, .slice (some ⟨g, o, none⟩) p.length cc] 26)) w2) := hide (btrans (hb1.alloc hb1.size _) hb2)
    have HI2 := hide (HC.out.grow X w w2 [] HI.out (btrans ((Below.refl _ _).alloc (Nat.le_refl _) _) HB2.out))
    have hz2 : w.heap.size < w2.heap.size := by have := HB2.out.size; simp at this; omega
    clear hb2 hc1 hf1 CL
    go_wp2_with fail
    refine (CC.out _ _ HI2.out).mono ?_
    rintro e w3 ⟨rfl, hi3, hk3⟩
    have box : ∀ (o' : Nat) u, (w.alloc (.cells #[nm, vs, pr, bl, .slice (some ⟨g, o, none⟩) p.length cc] 26)).cell? ⟨w.heap.size, o', none⟩ = some u → w3.cell? ⟨w.heap.size, o', none⟩ = some u :=
      fun o' u hu => hk3.cell (bsome HB2.out hu) (.inr ⟨Nat.le_refl _, hz2⟩)
    have x0 := box 0 nm (by simp [go_sem])
    have x1 := box 1 vs (by simp [go_sem])
    have x2 := box 2 pr (by simp [go_sem])
    have x3 := box 3 bl (by simp [go_sem])
    have x4 := box 4 (.slice (some ⟨g, o, none⟩) p.length cc) (by simp [go_sem])
    have K3 : Hid (Kx X w w3) := hide ((Kx.of_below (btrans ((Below.refl _ _).alloc (Nat.le_refl _) _) HB2.out)).trans (hk3.mono (fun k _ hx => .inl hx)))
    have I3 := hide hi3
    clear box hk3 hi3 CC
    by_cases bH : Pa.isI p ((j : Int) + 1) = true
    · have CH := hide (fun w' => isIns_any ⟨g, o, cc, some ⟨g, o, none⟩, nm, vs, pr, bl, p⟩ ((j : Int) + 1) w')
      unfold Cp.v at CH
      dsimp only at CH
      rw [bH] at CH
      obtain ⟨bh0, bh1⟩ := Pa.isI_iff.1 bH
      have HV2 : Hid ((((j : Int) + 1).toNat : Int) = (j : Int) + 1) := hide (Int.toNat_of_nonneg bh0)
      have CC := hide (fun X w1 hi => HC.out.call X w1 ([] ++ [(to).toNat]) ((j : Int) + 1).toNat [] (by rw [HON.out, one_yes rfl bL, one_yes (by simpa using HNE.out) bH]; try rfl) hi)
      rw [HV2.out] at CC
      go_wp2_with fail
      refine (CH.out _).mono ?_
      rintro e w4 ⟨rfl, hb4⟩
      have HI4 := hide (HC.out.past I3.out hb4)
      have K4 : Hid (Kx X w w4) := hide (K3.out.trans (Kx.of_below hb4))
      clear CH hb4
      go_wp2_with fail
      refine (CC.out _ _ HI4.out).mono ?_
      rintro e w5 ⟨rfl, hi5, hk5⟩
      have K5 : Hid (Kx X w w5) := hide (K4.out.trans (hk5.mono (fun k _ hx => .inl hx)))
      have I5 := hide hi5
      clear hi5 hk5 CC
      go_wp2
      go_end0
      refine ⟨rfl, ?_, K5.out⟩
      rw [HON.out, one_yes rfl bL, one_yes (by simpa using HNE.out) bH]
      exact HC.out.less _ _ _ _ (fun _ hx => .inl hx) I5.out
    · have bH' : Pa.isI p ((j : Int) + 1) = false := by simpa using bH
      have CH := hide (fun w' => isIns_any ⟨g, o, cc, some ⟨g, o, none⟩, nm, vs, pr, bl, p⟩ ((j : Int) + 1) w')
      unfold Cp.v at CH
      dsimp only at CH
      rw [bH'] at CH
      go_wp2_with fail
      refine (CH.out _).mono ?_
      rintro e w4 ⟨rfl, hb4⟩
      have HI4 := hide (HC.out.past I3.out hb4)
      have K4 : Hid (Kx X w w4) := hide (K3.out.trans (Kx.of_below hb4))
      clear CH hb4
      go_wp2
      go_end0
      refine ⟨rfl, ?_, K4.out⟩
      rw [HON.out, one_yes rfl bL, one_no (.inr bH')]
      exact HC.out.less _ _ _ _ (fun _ hx => .inl hx) HI4.out
  · have bL' : Pa.isI p (to) = false := by simpa using bL
    have CL := hide (fun w' => isIns_any ⟨g, o, cc, some ⟨g, o, none⟩, nm, vs, pr, bl, p⟩ (to) w')
    unfold Cp.v at CL
    dsimp only at CL
    rw [bL'] at CL
    go_wp2_with fail
    refine (CL.out _).mono ?_
    rintro e w2 ⟨rfl, hb2⟩
    have HB2 : Hid (Below (w.alloc (.cells #[nm, vs, pr, bl, .slice (some ⟨g, o, none⟩) p.length cc] 26)).heap.size (w.alloc (.cells #[nm, vs, pr, bl, .slice (some ⟨g, o, none⟩) p.length cc] 26)) w2) := hide (btrans (hb1.alloc hb1.size _) hb2)
    have B2 : Hid (Below w.heap.size w w2) := hide (btrans ((Below.refl _ _).alloc (Nat.le_refl _) _) HB2.out)
    have x0 : w2.cell? ⟨w.heap.size, 0, none⟩ = some nm := bsome HB2.out (by simp [go_sem])
    have x1 : w2.cell? ⟨w.heap.size, 1, none⟩ = some vs := bsome HB2.out (by simp [go_sem])
    have x2 : w2.cell? ⟨w.heap.size, 2, none⟩ = some pr := bsome HB2.out (by simp [go_sem])
    have x3 : w2.cell? ⟨w.heap.size, 3, none⟩ = some bl := bsome HB2.out (by simp [go_sem])
    have x4 : w2.cell? ⟨w.heap.size, 4, none⟩ = some (.slice (some ⟨g, o, none⟩) p.length cc) := bsome HB2.out (by simp [go_sem])
    clear hb2 hc1 hf1 CL
    by_cases bH : Pa.isI p ((j : Int) + 1) = true
    · have CH := hide (fun w' => isIns_any ⟨g, o, cc, some ⟨g, o, none⟩, nm, vs, pr, bl, p⟩ ((j : Int) + 1) w')
      unfold Cp.v at CH
      dsimp only at CH
      rw [bH] at CH
      obtain ⟨bh0, bh1⟩ := Pa.isI_iff.1 bH
      have HV2 : Hid ((((j : Int) + 1).toNat : Int) = (j : Int) + 1) := hide (Int.toNat_of_nonneg bh0)
      have CC := hide (fun X w1 hi => HC.out.call X w1 [] ((j : Int) + 1).toNat [] (by rw [HON.out, one_no (.inr bL'), one_yes (by simpa using HNE.out) bH]; try rfl) hi)
      rw [HV2.out] at CC
      go_wp2_with fail
      refine (CH.out _).mono ?_
      rintro e w4 ⟨rfl, hb4⟩
      have B4 := hide (btrans B2.out hb4)
      have HI4 := hide (HC.out.past HI.out B4.out)
      clear CH hb4
      go_wp2_with fail
      refine (CC.out _ _ HI4.out).mono ?_
      rintro e w5 ⟨rfl, hi5, hk5⟩
      have K5 : Hid (Kx X w w5) := hide ((Kx.of_below B4.out).trans hk5)
      have I5 := hide hi5
      clear hi5 hk5 CC
      go_wp2
      go_end0
      refine ⟨rfl, ?_, K5.out⟩
      rw [HON.out, one_no (.inr bL'), one_yes (by simpa using HNE.out) bH]
      exact I5.out
    · have bH' : Pa.isI p ((j : Int) + 1) = false := by simpa using bH
      have CH := hide (fun w' => isIns_any ⟨g, o, cc, some ⟨g, o, none⟩, nm, vs, pr, bl, p⟩ ((j : Int) + 1) w')
      unfold Cp.v at CH
      dsimp only at CH
      rw [bH'] at CH
      go_wp2_with fail
      refine (CH.out _).mono ?_
      rintro e w4 ⟨rfl, hb4⟩
      have B4 := hide (btrans B2.out hb4)
      clear CH hb4
      go_wp2
      go_end0
      refine ⟨rfl, ?_, Kx.of_below B4.out⟩
      rw [HON.out, one_no (.inr bL'), one_no (.inr bH')]
      exact HC.out.past HI.out B4.out
set_option maxRecDepth 100000 in
set_option maxHeartbeats 2000000 in
theorem onwN_11_eq (g o cc : Nat) (nm vs pr bl : Value) (p : Pa.Pr) (j : Nat) (p1 : Value) (I : (Nat → Prop) → World → List Nat → Prop) (HC : Hid (Clo (Pa.on p j) I 20 [p1])) (X : Nat → Prop) (w : World) (HI : Hid (I X w [])) (hl : p.length ≤ 300) (hj : j < p.length) (to : Int)  (hlt : to = (j : Int) + 1)
   (u1 u2 u3 : Int) (u5 : ByteArray) (a6 : Option Addr) (n6 c6 : Nat) (a7 : Option Addr) (n7 c7 : Nat) (u8 u9 u10 : Int)
   (h0 : w.cell? ⟨g, o + j * 11, none⟩ = some (.int .i64 11))
   (h1 : w.cell? ⟨g, o + j * 11 + 1, none⟩ = some (.int .i64 u1)) (h2 : w.cell? ⟨g, o + j * 11 + 2, none⟩ = some (.int .i64 u2)) (h3 : w.cell? ⟨g, o + j * 11 + 3, none⟩ = some (.int .i64 u3))
   (h4 : w.cell? ⟨g, o + j * 11 + 4, none⟩ = some (.int .i64 to))
   (h5 : w.cell? ⟨g, o + j * 11 + 5, none⟩ = some (.string u5)) (h6 : w.cell? ⟨g, o + j * 11 + 6, none⟩ = some (.slice a6 n6 c6)) (h7 : w.cell? ⟨g, o + j * 11 + 7, none⟩ = some (.slice a7 n7 c7))
   (h8 : w.cell? ⟨g, o + j * 11 + 8, none⟩ = some (.int .i64 u8)) (h9 : w.cell? ⟨g, o + j * 11 + 9, none⟩ = some (.int .i64 u9)) (h10 : w.cell? ⟨g, o + j * 11 + 10, none⟩ = some (.int .i64 u10)) (hx : p[j]? = some (11, to)) :
    Calls Try.prog 19 #[.agg #[nm, vs, pr, bl, .slice (some ⟨g, o, none⟩) p.length cc], .int .i64 j, .func (.func 20) #[] #[p1]] w fun e w' => e = .returned (.tuple #[]) ∧ I X w' (Pa.on p j) ∧ Kx X w w' := by
  subst hlt
  have hgl : g < w.heap.size := World.block_lt_of_cell? _ _ h0
  have e0 : Pa.isI p j = true := Pa.isI_iff.2 ⟨by omega, by omega⟩
  have C0 := hide (fun w' => isIns_any ⟨g, o, cc, some ⟨g, o, none⟩, nm, vs, pr, bl, p⟩ j w')
  unfold Cp.v at C0
  dsimp only at C0
  rw [e0] at C0
  have HON : Hid (Pa.on p j = Pa.one p true ((j : Int) + 1) ++ Pa.one p ((j : Int) + 1 != (j : Int) + 1) ((j : Int) + 1)) := by
    have e1 : Pa.lo (11, (j : Int) + 1) j = (j : Int) + 1 := by show min ((j : Int) + 1) _ = _; omega
    have e2 : Pa.hi (11, (j : Int) + 1) j = (j : Int) + 1 := by show max ((j : Int) + 1) _ = _; omega
    have := on_at hx (by simp) hj
    rw [e1, e2] at this
    exact this
  clear hx
  go_enter Try.func19, Try.ntmps19
  go_wp2_with fail
  refine (C0.out _).mono ?_
  rintro e w1 ⟨rfl, hb1⟩
  obtain ⟨hc1, hf1⟩ := bcell hb1
  have hz1 : w.heap.size < w1.heap.size := by have := hb1.size; simp at this; omega
  have hg1 : g < w1.heap.size := by omega
  by_cases bL : Pa.isI p ((j : Int) + 1) = true
  · have CL := hide (fun w' => isIns_any ⟨g, o, cc, some ⟨g, o, none⟩, nm, vs, pr, bl, p⟩ ((j : Int) + 1) w')
    unfold Cp.v at CL
    dsimp only at CL
    rw [bL] at CL
    obtain ⟨bl0, bl1⟩ := Pa.isI_iff.1 bL
    have HV : Hid ((((j : Int) + 1).toNat : Int) = (j : Int) + 1) := hide (Int.toNat_of_nonneg bl0)
    have CC := hide (fun X w1 hi => HC.out.call X w1 [] ((j : Int) + 1).toNat (Pa.one p ((j : Int) + 1 != (j : Int) + 1) ((j : Int) + 1)) (by rw [HON.out, one_yes rfl bL]; rfl) hi)
    rw [HV.out] at CC
    go_wp2_with fail
    refine (CL.out _).mono ?_
    rintro e w2 ⟨rfl, hb2⟩
    have HB2 : Hid (Below (w.alloc (.cells #[nm, vs, pr, bl, .slice (some ⟨g, o, none⟩) p.length cc] 26)).heap.size (w.alloc (.cells #[nm, vs, pr, bl, .slice (some ⟨g, o, none⟩) p.length cc] 26)) w2) := hide (btrans (hb1.alloc hb1.size _) hb2)
    have HI2 := hide (HC.out.grow X w w2 [] HI.out (btrans ((Below.refl _ _).alloc (Nat.le_refl _) _) HB2.out))
    have hz2 : w.heap.size < w2.heap.size := by have := HB2.out.size; simp at this; omega
    clear hb2 hc1 hf1 CL
    go_wp2_with fail
    refine (CC.out _ _ HI2.out).mono ?_
    rintro e w3 ⟨rfl, hi3, hk3⟩
    have box : ∀ (o' : Nat) u, (w.alloc (.cells #[nm, vs, pr, bl, .slice (some ⟨g, o, none⟩) p.length cc] 26)).cell? ⟨w.heap.size, o', none⟩ = some u → w3.cell? ⟨w.heap.size, o', none⟩ = some u :=
      fun o' u hu => hk3.cell (bsome HB2.out hu) (.inr ⟨Nat.le_refl _, hz2⟩)
    have x0 := box 0 nm (by simp [go_sem])
    have x1 := box 1 vs (by simp [go_sem])
    have x2 := box 2 pr (by simp [go_sem])
    have x3 := box 3 bl (by simp [go_sem])
    have x4 := box 4 (.slice (some ⟨g, o, none⟩) p.length cc) (by simp [go_sem])
    have K3 : Hid (Kx X w w3) := hide ((Kx.of_below (btrans ((Below.refl _ _).alloc (Nat.le_refl _) _) HB2.out)).trans (hk3.mono (fun k _ hx => .inl hx)))
    have I3 := hide hi3
    clear box hk3 hi3 CC
    go_wp2
    go_end0
    refine ⟨rfl, ?_, K3.out⟩
    rw [HON.out, one_yes rfl bL, one_no (.inl (by simp))]
    exact HC.out.less _ _ _ _ (fun _ hx => .inl hx) I3.out
  · have bL' : Pa.isI p ((j : Int) + 1) = false := by simpa using bL
    have CL := hide (fun w' => isIns_any ⟨g, o, cc, some ⟨g, o, none⟩, nm, vs, pr, bl, p⟩ ((j : Int) + 1) w')
    unfold Cp.v at CL
    dsimp only at CL
    rw [bL'] at CL
    go_wp2_with fail
    refine (CL.out _).mono ?_
    rintro e w2 ⟨rfl, hb2⟩
    have HB2 : Hid (Below (w.alloc (.cells #[nm, vs, pr, bl, .slice (some ⟨g, o, none⟩) p.length cc] 26)).heap.size (w.alloc (.cells #[nm, vs, pr, bl, .slice (some ⟨g, o, none⟩) p.length cc] 26)) w2) := hide (btrans (hb1.alloc hb1.size _) hb2)
    have B2 : Hid (Below w.heap.size w w2) := hide (btrans ((Below.refl _ _).alloc (Nat.le_refl _) _) HB2.out)
    have x0 : w2.cell? ⟨w.heap.size, 0, none⟩ = some nm := bsome HB2.out (by simp [go_sem])
    have x1 : w2.cell? ⟨w.heap.size, 1, none⟩ = some vs := bsome HB2.out (by simp [go_sem])
    have x2 : w2.cell? ⟨w.heap.size, 2, none⟩ = some pr := bsome HB2.out (by simp [go_sem])
    have x3 : w2.cell? ⟨w.heap.size, 3, none⟩ = some bl := bsome HB2.out (by simp [go_sem])
    have x4 : w2.cell? ⟨w.heap.size, 4, none⟩ = some (.slice (some ⟨g, o, none⟩) p.length cc) := bsome HB2.out (by simp [go_sem])
    clear hb2 hc1 hf1 CL
    go_wp2
    go_end0
    refine ⟨rfl, ?_, Kx.of_below B2.out⟩
    rw [HON.out, one_no (.inr bL'), one_no (.inl (by simp))]
    exact HC.out.past HI.out B2.out
set_option maxRecDepth 100000 in
set_option maxHeartbeats 2000000 in
theorem onwardN (c : Cp) (i : Int) (p1 : Value) (I : (Nat → Prop) → World → List Nat → Prop) (HC : Hid (Clo (Pa.on c.p i) I 20 [p1])) (X : Nat → Prop) (w : World) (h : PM c w) (hi : I X w []) :
    Calls Try.prog 19 #[c.v, .int .i64 i, .func (.func 20) #[] #[p1]] w fun e w' => e = .returned (.tuple #[]) ∧ I X w' (Pa.on c.p i) ∧ Kx X w w' := by
  obtain ⟨hl, hne, hr⟩ := h
  obtain ⟨g, o, cc, a, nm, vs, pr, bl, p⟩ := c
  unfold Cp.v
  dsimp only at *
  by_cases hin : Pa.isI p i = true
  · obtain ⟨i0, i1⟩ := Pa.isI_iff.1 hin
    obtain ⟨j, rfl⟩ : ∃ j : Nat, i = (j : Int) := ⟨i.toNat, by omega⟩
    have hj : j < p.length := by omega
    obtain ⟨⟨op, to⟩, hx⟩ : ∃ x, p[j]? = some x := ⟨_, List.getElem?_eq_getElem hj⟩
    obtain rfl := hne (by rintro rfl; simp at hx)
    obtain ⟨u1, u2, u3, u5, a6, n6, c6, a7, n7, c7, u8, u9, u10, h0, h1, h2, h3, h4, h5, h6, h7, h8, h9, h10⟩ := hr j _ hx
    clear hne hr
    by_cases o17 : op = 17
    · subst o17
      have hgl : g < w.heap.size := World.block_lt_of_cell? _ _ h0
      have C0 := hide (fun w' => isIns_any ⟨g, o, cc, some ⟨g, o, none⟩, nm, vs, pr, bl, p⟩ j w')
      unfold Cp.v at C0
      dsimp only at C0
      rw [hin] at C0
      rw [on_17 hx rfl]
      go_enter Try.func19, Try.ntmps19
      go_wp2_with fail
      refine (C0.out _).mono ?_
      rintro e w1 ⟨rfl, hb1⟩
      obtain ⟨hc1, hf1⟩ := bcell hb1
      have hz1 : w.heap.size < w1.heap.size := by have := hb1.size; simp at this; omega
      have hg1 : g < w1.heap.size := by omega
      have B1 : Hid (Below w.heap.size w w1) := hide (btrans ((Below.refl _ _).alloc (Nat.le_refl _) _) hb1)
      go_wp2
      refine bodyPost_ret (results_none rfl _ _ _) rfl ?_
      have B2 := B1.out.alloc B1.out.size (.cells #[.int .i64 17, .int .i64 u1, .int .i64 u2, .int .i64 u3, .int .i64 to, .string u5, .slice a6 n6 c6, .slice a7 n7 c7, .int .i64 u8, .int .i64 u9, .int .i64 u10] 40)
      exact ⟨rfl, HC.out.past hi B2, Kx.of_below B2⟩
    by_cases o15 : op = 15
    · subst o15
      exact onwN_jump g o cc nm vs pr bl p j p1 I HC X w (hide hi) hl hj to u1 u2 u3 u5 a6 n6 c6 a7 n7 c7 u8 u9 u10 h0 h1 h2 h3 h4 h5 h6 h7 h8 h9 h10 hx
    by_cases o3 : op = 14 ∨ op = 13 ∨ op = 11
    · rcases Int.lt_trichotomy ((j : Int) + 1) to with hlt | hlt | hlt
      · rcases o3 with rfl | rfl | rfl
        · exact onwN_14_lt g o cc nm vs pr bl p j p1 I HC X w (hide hi) hl hj to hlt u1 u2 u3 u5 a6 n6 c6 a7 n7 c7 u8 u9 u10 h0 h1 h2 h3 h4 h5 h6 h7 h8 h9 h10 hx
        · exact onwN_13_lt g o cc nm vs pr bl p j p1 I HC X w (hide hi) hl hj to hlt u1 u2 u3 u5 a6 n6 c6 a7 n7 c7 u8 u9 u10 h0 h1 h2 h3 h4 h5 h6 h7 h8 h9 h10 hx
        · exact onwN_11_lt g o cc nm vs pr bl p j p1 I HC X w (hide hi) hl hj to hlt u1 u2 u3 u5 a6 n6 c6 a7 n7 c7 u8 u9 u10 h0 h1 h2 h3 h4 h5 h6 h7 h8 h9 h10 hx
      · rcases o3 with rfl | rfl | rfl
        · exact onwN_14_eq g o cc nm vs pr bl p j p1 I HC X w (hide hi) hl hj to hlt.symm u1 u2 u3 u5 a6 n6 c6 a7 n7 c7 u8 u9 u10 h0 h1 h2 h3 h4 h5 h6 h7 h8 h9 h10 hx
        · exact onwN_13_eq g o cc nm vs pr bl p j p1 I HC X w (hide hi) hl hj to hlt.symm u1 u2 u3 u5 a6 n6 c6 a7 n7 c7 u8 u9 u10 h0 h1 h2 h3 h4 h5 h6 h7 h8 h9 h10 hx
        · exact onwN_11_eq g o cc nm vs pr bl p j p1 I HC X w (hide hi) hl hj to hlt.symm u1 u2 u3 u5 a6 n6 c6 a7 n7 c7 u8 u9 u10 h0 h1 h2 h3 h4 h5 h6 h7 h8 h9 h10 hx
      · rcases o3 with rfl | rfl | rfl
        · exact onwN_14_gt g o cc nm vs pr bl p j p1 I HC X w (hide hi) hl hj to hlt u1 u2 u3 u5 a6 n6 c6 a7 n7 c7 u8 u9 u10 h0 h1 h2 h3 h4 h5 h6 h7 h8 h9 h10 hx
        · exact onwN_13_gt g o cc nm vs pr bl p j p1 I HC X w (hide hi) hl hj to hlt u1 u2 u3 u5 a6 n6 c6 a7 n7 c7 u8 u9 u10 h0 h1 h2 h3 h4 h5 h6 h7 h8 h9 h10 hx
        · exact onwN_11_gt g o cc nm vs pr bl p j p1 I HC X w (hide hi) hl hj to hlt u1 u2 u3 u5 a6 n6 c6 a7 n7 c7 u8 u9 u10 h0 h1 h2 h3 h4 h5 h6 h7 h8 h9 h10 hx
    · exact onwN_next g o cc nm vs pr bl p j p1 I HC X w (hide hi) hl hj to op (beq_no o17) (beq_no o15) (beq_no (fun e => o3 (.inl e))) (beq_no (fun e => o3 (.inr (.inl e)))) (beq_no (fun e => o3 (.inr (.inr e)))) u1 u2 u3 u5 a6 n6 c6 a7 n7 c7 u8 u9 u10 h0 h1 h2 h3 h4 h5 h6 h7 h8 h9 h10 hx
  · have hin' : Pa.isI p i = false := by simpa using hin
    have C0 := hide (fun w' => isIns_any ⟨g, o, cc, a, nm, vs, pr, bl, p⟩ i w')
    unfold Cp.v at C0
    dsimp only at C0
    rw [hin'] at C0
    rw [on_no hin']
    clear hne hr
    go_enter Try.func19, Try.ntmps19
    go_wp2_with fail
    refine (C0.out _).mono ?_
    rintro e w1 ⟨rfl, hb1⟩
    have B1 : Hid (Below w.heap.size w w1) := hide (btrans ((Below.refl _ _).alloc (Nat.le_refl _) _) hb1)
    go_wp2
    refine bodyPost_ret (results_none rfl _ _ _) rfl ?_
    exact ⟨rfl, HC.out.past hi B1.out, Kx.of_below B1.out⟩
end Go.Proofs.Ytfngmdebmedkjae

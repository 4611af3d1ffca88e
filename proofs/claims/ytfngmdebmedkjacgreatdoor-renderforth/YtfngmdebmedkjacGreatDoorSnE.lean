import Derived.Test.YtfngmdebmedkjacGreatDoorSnD
/- Sums, walked. -/
namespace Go.Proofs.YtfngmdebmedkjacGreatDoor
open Go.RowKit

set_option maxRecDepth 100000 in
set_option maxHeartbeats 2000000 in
theorem sum_step (f : Nat) (hU : ∀ f', f' ≤ f → Cn f' 2 215) : Cn (f + 1) 1 212 := by
  intro c w n s h hf
  rw [Sx.pe_1] at hf ⊢
  have HF := hide hf
  have HH := hide h
  have HB := hide h.lt
  have HU := hide hU
  have hr := h.rlt
  clear h hf hU
  go_enter Tryz.func212, Tryz.ntmps212
  go_wp2_with fail
  refine (HU.out f (Nat.le_refl _) c _ n s (by exact HH.out.alloc _) (Dry.bnd HF.out)).mono ?_
  intro e w1 hp
  rcases hm : Sx.pe c.e f 2 Sx.d0 s (c.full.drop n) with ⟨x, s1, r1⟩ | ⟨code, p, rest⟩
  · rw [hm] at hp
    obtain ⟨v, n1, rfl, hv, hr1, hd1, hk1⟩ := hp
    obtain ⟨f1, op1, nm1, k1, L1, a1, len1, cap1, hl1, hx1, rfl, hE1⟩ := hv.open
    have HM := hide hm
    have HR1 := hide hr1
    have HD1 := hide hd1
    have HK1 := hide hk1
    have HV1 := hide hv
    have HF1 : Hid (¬ Dry (Sx.pe c.e f 4 x s1 (c.full.drop n1))) := by
      have := Dry.next HF.out hm
      rwa [hr1] at this
    have hn0 : w.heap.size ∉ [c.rb] := by simp; omega
    have hz1 : w.heap.size < w1.heap.size := by have := hk1.size; simp at this; omega
    have HS := hide (LX.start (t := 137) HB.out hz1 (((Kp.refl _ _).alloc _).trans hk1) hd1 ((X4.new _ _ _ _ _ 137).keep hk1 hn0) (hv.base (P' := fun b => w.heap.size + 1 ≤ b) (fun b _ hb => by simp at hb; omega)))
    clear hm hr1 hd1 hk1 hv hE1 hx1 hl1
    generalize bs nm1 = bn1 at *
    go_wp2_with fail
    go_loopw [] (fun wr => ∃ (f2 n2 : Nat) (y : Sx.Tr) (s2 : Sx.St) (op k : Int) (nm : ByteArray) (a : Option Addr) (len cap : Nat), f2 ≤ f ∧ Hid (Sx.pe c.e f 4 x s1 (c.full.drop n1) = Sx.pe c.e f2 4 y s2 (c.full.drop n2)) ∧ LX w wr c w1.heap.size n2 s2 y op k nm a len cap) (fun wr => c.full.length - nextOf c wr)
    case atStart => exact ⟨f, n1, x, s1, op1, k1, bn1, a1, len1, cap1, Nat.le_refl _, rfl, HS.out⟩
    case round =>
      obtain ⟨f2, n2, y, s2, op, k, nm, a, len, cap, hf2, HP, HL⟩ := hrel
      have HFr : Hid (¬ Dry (Sx.pe c.e f2 4 y s2 (c.full.drop n2))) := by rw [← HP.out]; exact HF1.out
      obtain ⟨f3, rfl⟩ : ∃ f3, f2 = f3 + 1 := by
        cases f2 with
        | zero => exact absurd ⟨_, _, rfl⟩ HFr.out
        | succ f3 => exact ⟨f3, rfl⟩
      have hxlt := HL.x.lt
      obtain ⟨x0, x1, x2, x3, xf⟩ := HL.x
      obtain ⟨y0, y1, y2, y3, yf⟩ := HL.z
      have hvlt := HL.vlt
      have HLL := hide HL
      clear HL
      by_cases ht : Sx.txt (c.full.drop n2) = [43]
      · have hlt : n2 < c.full.length := txt_lt ht (by simp)
        have HE : Hid (Sx.pe c.e (f3 + 1) 4 y s2 (c.full.drop n2) = Sx.bnd (Sx.join 4 y (Sx.pe c.e f3 2 Sx.d0 s2 (c.full.drop (n2 + 1)))) fun z s1 r1 => Sx.pe c.e f3 4 z s1 r1) := by
          show _ = _
          rw [Sx.pe_4, if_pos ht, List.tail_drop]
        have HFj : Hid (¬ Dry (Sx.pe c.e f3 2 Sx.d0 s2 (c.full.drop (n2 + 1)))) := by
          have h1 := HFr.out
          rw [HE.out] at h1
          exact Dry.bnd (Dry.bnd h1)
        have HT := hide ht
        clear ht
        go_wp2_with fail
        refine (sees_yes ⟨#[43]⟩ HT.out HLL.out.rd).mono ?_
        rintro e w2 ⟨rfl, kk, rfl⟩
        go_wp2_with fail
        refine (joined_prod 4 y _ (fun b => w.heap.size + 1 ≤ b ∧ b ≠ w1.heap.size) c _ n2 s2 (by exact HLL.out.rd.drewN _) hlt (fun b hb => by simp at hb; exact ⟨by omega, by omega⟩) (by simp; omega) (by exact (HLL.out.drewN _).v) _
          (fun w' hw' => HU.out f3 (by omega) c w' (n2 + 1) s2 hw' HFj.out) (fun y' s1' r1' hm' => join_paid HLL.out.rd HT.out y' s1' r1' hm')).mono ?_
        intro e w3 hp
        rcases hm : Sx.join 4 y (Sx.pe c.e f3 2 Sx.d0 s2 (c.full.drop (n2 + 1))) with ⟨z, s4, r4⟩ | ⟨code, p, rest⟩
        · rw [hm] at hp
          obtain ⟨v4, n4, rfl, hv4, hr4, hd4, hk4⟩ := hp
          rw [hr4] at hm
          have hfur := further hlt hm hd4.hn
          obtain ⟨f4, op4, nm4, k4, L4, a4, len4, cap4, hl4, hx4, rfl, hE4⟩ := hv4.open
          have HS4 := hide (LX.set (HLL.out.drewN kk) hk4 hd4 hv4)
          have HM4 := hide hm
          have hn4 := hd4.hn
          have hcc : w1.heap.size ∉ [c.rb] := by have := HB.out.1; simp; omega
          obtain ⟨X0, X1, X2, X3, XF⟩ := (HLL.out.drewN kk).x.keep hk4 hcc
          clear hm hr4 hd4 hk4 hv4 hE4 hx4 hl4 x0 x1 x2 x3 xf y0 y1 y2 y3 yf
          generalize bs nm4 = bn4 at *
          go_wp2
          go_roundw
          case rel =>
            refine ⟨f3, n4, z, s4, op4, k4, bn4, a4, len4, cap4, by omega, ?_, HS4.out⟩
            show _ = _
            rw [HP.out, HE.out, HM4.out]
            rfl
          case measure =>
            rw [HS4.out.rd.nx, HLL.out.rd.nx]
            omega
        · rw [hm] at hp
          obtain ⟨rfl, hk4⟩ := hp
          refine ⟨rfl, ?_⟩
          rw [HM.out]
          show Post c [c.rb] w _ (Sx.pe c.e f 4 x s1 r1) _ _
          rw [HR1.out, HP.out, HE.out, hm]
          exact ⟨rfl, (HLL.out.kp.drewN _).trans hk4⟩
      · have H43 := hide ht
        clear ht
        by_cases ht : Sx.txt (c.full.drop n2) = [45]
        · have hlt : n2 < c.full.length := txt_lt ht (by simp)
          have HE : Hid (Sx.pe c.e (f3 + 1) 4 y s2 (c.full.drop n2) = Sx.bnd (Sx.join 5 y (Sx.pe c.e f3 2 Sx.d0 s2 (c.full.drop (n2 + 1)))) fun z s1 r1 => Sx.pe c.e f3 4 z s1 r1) := by
            show _ = _
            rw [Sx.pe_4, if_neg H43.out, if_pos ht, List.tail_drop]
          have HFj : Hid (¬ Dry (Sx.pe c.e f3 2 Sx.d0 s2 (c.full.drop (n2 + 1)))) := by
            have h1 := HFr.out
            rw [HE.out] at h1
            exact Dry.bnd (Dry.bnd h1)
          have HT := hide ht
          clear ht
          go_wp2_with fail
          refine (sees_no ⟨#[43]⟩ H43.out HLL.out.rd).mono ?_
          rintro e w2 ⟨rfl, k9, rfl⟩
          go_wp2_with fail
          refine (sees_yes ⟨#[45]⟩ HT.out (by exact HLL.out.rd.drewN _)).mono ?_
          rintro e w2 ⟨rfl, kk, rfl⟩
          go_wp2_with fail
          refine (joined_prod 5 y _ (fun b => w.heap.size + 1 ≤ b ∧ b ≠ w1.heap.size) c _ n2 s2 (by exact HLL.out.rd.drewN _) hlt (fun b hb => by simp at hb; exact ⟨by omega, by omega⟩) (by simp; omega) (by exact (HLL.out.drewN _).v) _
            (fun w' hw' => HU.out f3 (by omega) c w' (n2 + 1) s2 hw' HFj.out) (fun y' s1' r1' hm' => join_paid HLL.out.rd HT.out y' s1' r1' hm')).mono ?_
          intro e w3 hp
          rcases hm : Sx.join 5 y (Sx.pe c.e f3 2 Sx.d0 s2 (c.full.drop (n2 + 1))) with ⟨z, s4, r4⟩ | ⟨code, p, rest⟩
          · rw [hm] at hp
            obtain ⟨v4, n4, rfl, hv4, hr4, hd4, hk4⟩ := hp
            rw [hr4] at hm
            have hfur := further hlt hm hd4.hn
            obtain ⟨f4, op4, nm4, k4, L4, a4, len4, cap4, hl4, hx4, rfl, hE4⟩ := hv4.open
            have HS4 := hide (LX.set (HLL.out.drewN (k9 + kk)) hk4 hd4 hv4)
            have HM4 := hide hm
            have hn4 := hd4.hn
            have hcc : w1.heap.size ∉ [c.rb] := by have := HB.out.1; simp; omega
            obtain ⟨X0, X1, X2, X3, XF⟩ := (HLL.out.drewN (k9 + kk)).x.keep hk4 hcc
            clear hm hr4 hd4 hk4 hv4 hE4 hx4 hl4 x0 x1 x2 x3 xf y0 y1 y2 y3 yf
            generalize bs nm4 = bn4 at *
            go_wp2
            go_roundw
            case rel =>
              refine ⟨f3, n4, z, s4, op4, k4, bn4, a4, len4, cap4, by omega, ?_, HS4.out⟩
              show _ = _
              rw [HP.out, HE.out, HM4.out]
              rfl
            case measure =>
              rw [HS4.out.rd.nx, HLL.out.rd.nx]
              omega
          · rw [hm] at hp
            obtain ⟨rfl, hk4⟩ := hp
            refine ⟨rfl, ?_⟩
            rw [HM.out]
            show Post c [c.rb] w _ (Sx.pe c.e f 4 x s1 r1) _ _
            rw [HR1.out, HP.out, HE.out, hm]
            exact ⟨rfl, (HLL.out.kp.drewN _).trans hk4⟩
        · have HE : Hid (Sx.pe c.e (f3 + 1) 4 y s2 (c.full.drop n2) = .inl (y, s2, c.full.drop n2)) := by
            show _ = _
            rw [Sx.pe_4, if_neg H43.out, if_neg ht]
          have HT := hide ht
          clear ht
          go_wp2_with fail
          refine (sees_no ⟨#[43]⟩ H43.out HLL.out.rd).mono ?_
          rintro e w2 ⟨rfl, k9, rfl⟩
          go_wp2_with fail
          refine (sees_no ⟨#[45]⟩ HT.out (by exact HLL.out.rd.drewN _)).mono ?_
          rintro e w2 ⟨rfl, kk, rfl⟩
          go_wp2
          refine bodyPost_ret (v := .agg #[.int .i64 op, .string nm, .int .i64 k, .slice a len cap]) (by simp [results, Tryz.results212, go_sem, y0, y1, y2, y3]) rfl ?_
          rw [HM.out]
          show Post c [c.rb] w _ (Sx.pe c.e f 4 x s1 r1) _ _
          rw [HR1.out, HP.out, HE.out]
          exact fin_expr HB.out (HLL.out.drewN (k9 + kk)).kp (HLL.out.drewN (k9 + kk)).rd ((HLL.out.drewN (k9 + kk)).v.base (fun b _ hb => hb.1))
  · rw [hm] at hp
    obtain ⟨rfl, hk1⟩ := hp
    refine ⟨rfl, ?_⟩
    rw [hm]
    exact ⟨rfl, ((Kp.refl _ _).alloc _).trans hk1⟩
end Go.Proofs.YtfngmdebmedkjacGreatDoor
/- Expressions, walked. -/
namespace Go.Proofs.YtfngmdebmedkjacGreatDoor
open Go.RowKit

set_option maxRecDepth 100000 in
set_option maxHeartbeats 2000000 in
theorem expr_step (f : Nat) (h1 : Cn f 1 212) : Cn (f + 1) 0 208 := by
  intro c w n s h hf
  rw [Sx.pe_0] at hf ⊢
  have HF := hide hf
  have HH := hide h
  have HB := hide h.lt
  have HU := hide h1
  have hr := h.rlt
  have c6 := h.c6
  have bs6 : s.parts ≤ 12000 := by have := h.b6; omega
  clear h hf h1
  have HA := hide (fun w h => at_any c w n s h)
  generalize hpl : Sx.place c.e (c.full.drop n) = pl at *
  have HPL := hide hpl
  clear hpl
  go_enter Tryz.func208, Tryz.ntmps208
  go_wp2
  go_quiet ((go_at_call 139; exact Calls.quiet_of (HA.out _ (by exact (HH.out.alloc _).drewN _))))
  go_wp2_with fail
  refine (HU.out c _ n s (by exact (HH.out.alloc _).drewN _) (Dry.bnd (Dry.bnd HF.out))).mono ?_
  intro e w1 hp
  rcases hm : Sx.pe c.e f 1 Sx.d0 s (c.full.drop n) with ⟨x, s1, r1⟩ | ⟨code, p, rest⟩
  · rw [hm] at hp
    obtain ⟨v, n1, rfl, hv, hr1, hd1, hk1⟩ := hp
    obtain ⟨f1, op1, nm1, k1, L1, a1, len1, cap1, hl1, hx1, rfl, hE1⟩ := hv.open
    have HM := hide hm
    have HR1 := hide hr1
    have hpm := (Sx.pe_keeps _ _ _ _ _ _ _ _ _ hm).pm
    have HF1 := hide (Dry.next (Dry.bnd HF.out) hm)
    have hn0 : w.heap.size ∉ [c.rb] := by simp; omega
    have hz1 : w.heap.size < w1.heap.size := by have := hk1.size; simp at this; omega
    have HS := hide (LX.start (t := 137) HB.out hz1 ((((Kp.refl _ _).alloc _).drewN _).trans hk1) hd1 (((X4.new _ _ _ _ _ 137).keep ((Kp.refl [] _).drewN _) (by simp)).keep hk1 hn0) (hv.base (P' := fun b => w.heap.size + 1 ≤ b) (fun b _ hb => by simp at hb; omega)))
    clear hm hr1 hd1 hk1 hv hE1 hx1 hl1
    generalize bs nm1 = bn1 at *
    by_cases ht : Sx.txt (c.full.drop n1) = [60]
    · have hlt : n1 < c.full.length := txt_lt ht (by simp)
      have HFj : Hid (¬ Dry (Sx.pe c.e f 1 Sx.d0 s1 (c.full.drop (n1 + 1)))) := by
        have h1 := HF1.out
        rw [HR1.out, if_pos ht, List.tail_drop] at h1
        exact Dry.bnd h1
      have HT := hide ht
      clear ht
      have hxlt := HS.out.x.lt
      have hvlt := HS.out.vlt
      go_wp2_with fail
      refine (sees_yes ⟨#[60]⟩ HT.out HS.out.rd).mono ?_
      rintro e w2 ⟨rfl, kk, rfl⟩
      go_wp2_with fail
      refine (joined_sum 7 x _ (fun b => w.heap.size + 1 ≤ b ∧ b ≠ w1.heap.size) c _ n1 s1 (by exact (HS.out.drewN _).rd) hlt (fun b hb => by simp at hb hxlt; exact ⟨by omega, by omega⟩) (by simp; omega) (by exact (HS.out.drewN _).v) _
        (fun w' hw' => HU.out c w' (n1 + 1) s1 hw' HFj.out) (fun y' s1' r1' hm' => join_paid HS.out.rd HT.out y' s1' r1' hm')).mono ?_
      intro e w3 hp
      rcases hm : Sx.join 7 x (Sx.pe c.e f 1 Sx.d0 s1 (c.full.drop (n1 + 1))) with ⟨z, s4, r4⟩ | ⟨code, p, rest⟩
      · rw [hm] at hp
        obtain ⟨v4, n4, rfl, hv4, hr4, hd4, hk4⟩ := hp
        have hpm4 : s1.parts ≤ s4.parts := by
          obtain ⟨_, s5, h5, _, rfl⟩ := Sx.join_ok hm
          have := (Sx.pe_keeps _ _ _ _ _ _ _ _ _ h5).pm
          simp only [Sx.St.part]
          omega
        obtain ⟨f4, op4, nm4, k4, L4, a4, len4, cap4, hl4, hx4, rfl, hE4⟩ := hv4.open
        have HS4 := hide (LX.set (HS.out.drewN (kk)) hk4 hd4 hv4)
        have HM4 := hide hm
        have HR4 := hide hr4
        have hcc : w1.heap.size ∉ [c.rb] := by have := HB.out.1; simp; omega
        obtain ⟨X0, X1, X2, X3, XF⟩ := (HS.out.drewN (kk)).x.keep hk4 hcc
        obtain ⟨y0, y1, y2, y3, yf⟩ := (HS.out.drewN (kk)).z.keep hk4 hn0
        have g6 := hd4.c6
        have b4 : s4.parts ≤ 12000 := by have := hd4.b6; omega
        have q1 : ¬ c.rb = w1.heap.size := by omega
        have q2 : ¬ w1.heap.size = c.rb := by omega
        have q3 : ¬ w.heap.size = w1.heap.size := by omega
        have q4 : ¬ w1.heap.size = w.heap.size := by omega
        have hE : Sx.bnd (Sx.bnd (Sx.pe c.e f 1 Sx.d0 s (c.full.drop n)) fun x s1 r1 => if Sx.txt r1 = [60] then Sx.join 7 x (Sx.pe c.e f 1 Sx.d0 s1 r1.tail) else if Sx.txt r1 = [61, 61] then Sx.join 8 x (Sx.pe c.e f 1 Sx.d0 s1 r1.tail) else .inl (x, s1, r1)) (fun z s3 r3 => if 20 < s3.parts - s.parts then (.inr (8, pl, r3) : Sx.Rs Sx.Tr) else .inl (z, s3, r3))
            = if 20 < s4.parts - s.parts then .inr (8, pl, c.full.drop n4) else .inl (z, s4, c.full.drop n4) := by
          rw [HM.out]
          show Sx.bnd (if Sx.txt r1 = [60] then _ else _) _ = _
          rw [HR1.out, if_pos HT.out, List.tail_drop, HM4.out, HR4.out]
          rfl
        have HE := hide hE
        clear hm hr4 hd4 hk4 hv4 hE4 hx4 hl4 hE
        generalize bs nm4 = bn4 at *
        by_cases h20 : 20 < s4.parts - s.parts
        · have d1 : decide ((20 : Int) < (s4.parts : Int) - (s.parts : Int)) = true := by simp; omega
          have H20 := hide h20
          clear h20
          go_wp2
          rw [HE.out, if_pos H20.out]
          exact ⟨rfl, rfl, HS4.out.kp⟩
        · have d1 : decide ((20 : Int) < (s4.parts : Int) - (s.parts : Int)) = false := by simp; omega
          have H20 := hide h20
          clear h20
          go_wp2
          refine bodyPost_ret (v := .agg #[.int .i64 op4, .string bn4, .int .i64 k4, .slice a4 len4 cap4]) (by simp [results, Tryz.results208, go_sem, y0, y1, y2, y3]) rfl ?_
          rw [HE.out, if_neg H20.out]
          exact fin_expr HB.out HS4.out.kp HS4.out.rd (HS4.out.v.base (fun b _ hb => hb.1))
      · rw [hm] at hp
        obtain ⟨rfl, hk4⟩ := hp
        refine ⟨rfl, ?_⟩
        rw [HM.out]
        show Post c [c.rb] w _ (Sx.bnd (if Sx.txt r1 = [60] then _ else _) _) _ _
        rw [HR1.out, if_pos HT.out, List.tail_drop, hm]
        exact ⟨rfl, (HS.out.drewN _).kp.trans hk4⟩
    · have H60 := hide ht
      clear ht
      by_cases ht : Sx.txt (c.full.drop n1) = [61, 61]
      · have hlt : n1 < c.full.length := txt_lt ht (by simp)
        have HFj : Hid (¬ Dry (Sx.pe c.e f 1 Sx.d0 s1 (c.full.drop (n1 + 1)))) := by
          have h1 := HF1.out
          rw [HR1.out, if_neg H60.out, if_pos ht, List.tail_drop] at h1
          exact Dry.bnd h1
        have HT := hide ht
        clear ht
        have hxlt := HS.out.x.lt
        have hvlt := HS.out.vlt
        go_wp2_with fail
        refine (sees_no ⟨#[60]⟩ H60.out HS.out.rd).mono ?_
        rintro e w2 ⟨rfl, k9, rfl⟩
        go_wp2_with fail
        refine (sees_yes ⟨#[61, 61]⟩ HT.out (by exact HS.out.rd.drewN _)).mono ?_
        rintro e w2 ⟨rfl, kk, rfl⟩
        go_wp2_with fail
        refine (joined_sum 8 x _ (fun b => w.heap.size + 1 ≤ b ∧ b ≠ w1.heap.size) c _ n1 s1 (by exact (HS.out.drewN _).rd) hlt (fun b hb => by simp at hb hxlt; exact ⟨by omega, by omega⟩) (by simp; omega) (by exact (HS.out.drewN _).v) _
          (fun w' hw' => HU.out c w' (n1 + 1) s1 hw' HFj.out) (fun y' s1' r1' hm' => join_paid HS.out.rd HT.out y' s1' r1' hm')).mono ?_
        intro e w3 hp
        rcases hm : Sx.join 8 x (Sx.pe c.e f 1 Sx.d0 s1 (c.full.drop (n1 + 1))) with ⟨z, s4, r4⟩ | ⟨code, p, rest⟩
        · rw [hm] at hp
          obtain ⟨v4, n4, rfl, hv4, hr4, hd4, hk4⟩ := hp
          have hpm4 : s1.parts ≤ s4.parts := by
            obtain ⟨_, s5, h5, _, rfl⟩ := Sx.join_ok hm
            have := (Sx.pe_keeps _ _ _ _ _ _ _ _ _ h5).pm
            simp only [Sx.St.part]
            omega
          obtain ⟨f4, op4, nm4, k4, L4, a4, len4, cap4, hl4, hx4, rfl, hE4⟩ := hv4.open
          have HS4 := hide (LX.set (HS.out.drewN (k9 + kk)) hk4 hd4 hv4)
          have HM4 := hide hm
          have HR4 := hide hr4
          have hcc : w1.heap.size ∉ [c.rb] := by have := HB.out.1; simp; omega
          obtain ⟨X0, X1, X2, X3, XF⟩ := (HS.out.drewN (k9 + kk)).x.keep hk4 hcc
          obtain ⟨y0, y1, y2, y3, yf⟩ := (HS.out.drewN (k9 + kk)).z.keep hk4 hn0
          have g6 := hd4.c6
          have b4 : s4.parts ≤ 12000 := by have := hd4.b6; omega
          have q1 : ¬ c.rb = w1.heap.size := by omega
          have q2 : ¬ w1.heap.size = c.rb := by omega
          have q3 : ¬ w.heap.size = w1.heap.size := by omega
          have q4 : ¬ w1.heap.size = w.heap.size := by omega
          have hE : Sx.bnd (Sx.bnd (Sx.pe c.e f 1 Sx.d0 s (c.full.drop n)) fun x s1 r1 => if Sx.txt r1 = [60] then Sx.join 7 x (Sx.pe c.e f 1 Sx.d0 s1 r1.tail) else if Sx.txt r1 = [61, 61] then Sx.join 8 x (Sx.pe c.e f 1 Sx.d0 s1 r1.tail) else .inl (x, s1, r1)) (fun z s3 r3 => if 20 < s3.parts - s.parts then (.inr (8, pl, r3) : Sx.Rs Sx.Tr) else .inl (z, s3, r3))
              = if 20 < s4.parts - s.parts then .inr (8, pl, c.full.drop n4) else .inl (z, s4, c.full.drop n4) := by
            rw [HM.out]
            show Sx.bnd (if Sx.txt r1 = [60] then _ else _) _ = _
            rw [HR1.out, if_neg H60.out, if_pos HT.out, List.tail_drop, HM4.out, HR4.out]
            rfl
          have HE := hide hE
          clear hm hr4 hd4 hk4 hv4 hE4 hx4 hl4 hE
          generalize bs nm4 = bn4 at *
          by_cases h20 : 20 < s4.parts - s.parts
          · have d1 : decide ((20 : Int) < (s4.parts : Int) - (s.parts : Int)) = true := by simp; omega
            have H20 := hide h20
            clear h20
            go_wp2
            rw [HE.out, if_pos H20.out]
            exact ⟨rfl, rfl, HS4.out.kp⟩
          · have d1 : decide ((20 : Int) < (s4.parts : Int) - (s.parts : Int)) = false := by simp; omega
            have H20 := hide h20
            clear h20
            go_wp2
            refine bodyPost_ret (v := .agg #[.int .i64 op4, .string bn4, .int .i64 k4, .slice a4 len4 cap4]) (by simp [results, Tryz.results208, go_sem, y0, y1, y2, y3]) rfl ?_
            rw [HE.out, if_neg H20.out]
            exact fin_expr HB.out HS4.out.kp HS4.out.rd (HS4.out.v.base (fun b _ hb => hb.1))
        · rw [hm] at hp
          obtain ⟨rfl, hk4⟩ := hp
          refine ⟨rfl, ?_⟩
          rw [HM.out]
          show Post c [c.rb] w _ (Sx.bnd (if Sx.txt r1 = [60] then _ else _) _) _ _
          rw [HR1.out, if_neg H60.out, if_pos HT.out, List.tail_drop, hm]
          exact ⟨rfl, (HS.out.drewN _).kp.trans hk4⟩
      · have HT := hide ht
        clear ht
        have hxlt := HS.out.x.lt
        have hvlt := HS.out.vlt
        have hE : Sx.bnd (Sx.bnd (Sx.pe c.e f 1 Sx.d0 s (c.full.drop n)) fun x s1 r1 => if Sx.txt r1 = [60] then Sx.join 7 x (Sx.pe c.e f 1 Sx.d0 s1 r1.tail) else if Sx.txt r1 = [61, 61] then Sx.join 8 x (Sx.pe c.e f 1 Sx.d0 s1 r1.tail) else .inl (x, s1, r1)) (fun z s3 r3 => if 20 < s3.parts - s.parts then (.inr (8, pl, r3) : Sx.Rs Sx.Tr) else .inl (z, s3, r3))
            = if 20 < s1.parts - s.parts then .inr (8, pl, c.full.drop n1) else .inl (x, s1, c.full.drop n1) := by
          rw [HM.out]
          show Sx.bnd (if Sx.txt r1 = [60] then _ else _) _ = _
          rw [HR1.out, if_neg H60.out, if_neg HT.out]
          rfl
        have HE := hide hE
        have b4 : s1.parts ≤ 12000 := by have := HS.out.rd.b6; omega
        clear hE
        go_wp2_with fail
        refine (sees_no ⟨#[60]⟩ H60.out HS.out.rd).mono ?_
        rintro e w2 ⟨rfl, k9, rfl⟩
        go_wp2_with fail
        refine (sees_no ⟨#[61, 61]⟩ HT.out (by exact HS.out.rd.drewN _)).mono ?_
        rintro e w2 ⟨rfl, kk, rfl⟩
        have g6 := HS.out.rd.c6
        obtain ⟨X0, X1, X2, X3, XF⟩ := HS.out.x
        obtain ⟨y0, y1, y2, y3, yf⟩ := HS.out.z
        have q1 : ¬ c.rb = w1.heap.size := by omega
        have q2 : ¬ w1.heap.size = c.rb := by omega
        have q3 : ¬ w.heap.size = w1.heap.size := by omega
        have q4 : ¬ w1.heap.size = w.heap.size := by omega
        by_cases h20 : 20 < s1.parts - s.parts
        · have d1 : decide ((20 : Int) < (s1.parts : Int) - (s.parts : Int)) = true := by simp; omega
          have H20 := hide h20
          clear h20
          go_wp2
          rw [HE.out, if_pos H20.out]
          exact ⟨rfl, rfl, (HS.out.drewN _).kp⟩
        · have d1 : decide ((20 : Int) < (s1.parts : Int) - (s.parts : Int)) = false := by simp; omega
          have H20 := hide h20
          clear h20
          go_wp2
          refine bodyPost_ret (v := .agg #[.int .i64 op1, .string bn1, .int .i64 k1, .slice a1 len1 cap1]) (by simp [results, Tryz.results208, go_sem, y0, y1, y2, y3]) rfl ?_
          rw [HE.out, if_neg H20.out]
          exact fin_expr HB.out (HS.out.drewN _).kp (HS.out.drewN _).rd ((HS.out.drewN _).v.base (fun b _ hb => hb.1))
  · rw [hm] at hp
    obtain ⟨rfl, hk1⟩ := hp
    refine ⟨rfl, ?_⟩
    rw [hm]
    exact ⟨rfl, (((Kp.refl _ _).alloc _).drewN _).trans hk1⟩

theorem pe_any (f : Nat) : Cn f 0 208 ∧ Cn f 1 212 ∧ Cn f 2 215 ∧ Cn f 3 217 := by
  induction f using Nat.strongRecOn with
  | ind f ih =>
    cases f with
    | zero =>
      refine ⟨?_, ?_, ?_, ?_⟩
      all_goals
        intro c w n s h hf
        exact absurd ⟨_, _, rfl⟩ hf
    | succ f =>
      exact ⟨expr_step f (ih f (Nat.lt_succ_self _)).2.1, sum_step f (fun f' hf' => (ih f' (by omega)).2.2.1), product_step f (fun f' hf' => (ih f' (by omega)).2.2.2), unit_step f (ih f (Nat.lt_succ_self _)).1 (ih f (Nat.lt_succ_self _)).2.2.2⟩
end Go.Proofs.YtfngmdebmedkjacGreatDoor

import Derived.Test.YtdbciaihnikibacGreatDoorRenLa
import Derived.Test.YtdbciaihnikibacGreatDoorRxS
import Derived.Test.YtdbciaihnikibacGreatDoorRyA
import Derived.Test.YtdbciaihnikibacGreatDoorRxD
import Derived.Test.YtdbciaihnikibacGreatDoorSnM
import Derived.Test.YtdbciaihnikibacGreatDoorRzB
/- The law RenderBack: it answers true. -/
namespace Go.Proofs.YtdbciaihnikibacGreatDoor
open Go.RowKit

theorem GL.kept {w w' : World} {P : Nat → Prop} {n : Nat} {l : List Sx.Tr} {v : Value} (h : Sl (RG w P n) w P l v) (hk : Kp [] w w') : Sl (RG w' P n) w' P l v := h.keep hk (by simp) (fun d c h => h.keep hk (by simp))
theorem GL.raise {w : World} {P : Nat → Prop} {n : Nat} {l : List Sx.Tr} {v : Value} (h : Sl (RG w P n) w P l v) {m : Nat} (hm : n ≤ m) : Sl (RG w P m) w P l v := by
  obtain ⟨k, rfl⟩ : ∃ k, m = n + k := ⟨m - n, by omega⟩
  exact h.mono' (fun d c _ hd => hd.more k)
theorem Rw.mem {R : Sx.Tr → List Value → Prop} {l : List Sx.Tr} {cs : List Value} (h : Rw R l cs) : ∀ d, d ∈ l → ∃ c, R d c := by
  induction l generalizing cs with
  | nil => intro d hd; cases hd
  | cons x r ih =>
    obtain ⟨c1, c2, h1, h2, h3⟩ := h
    intro d hd
    rcases List.mem_cons.1 hd with rfl | hd
    · exact ⟨_, h2⟩
    · exact ih h3 d hd
theorem Sl.mem {R : Sx.Tr → List Value → Prop} {w : World} {P : Nat → Prop} {l : List Sx.Tr} {v : Value} (h : Sl R w P l v) : ∀ d, d ∈ l → ∃ c, R d c := by
  obtain ⟨a, cap, hv, h⟩ := h
  rcases h with rfl | ⟨b, off, cs, ha, hb, hr, hc⟩
  · intro d hd; cases hd
  · exact hr.mem
theorem EL.wE_up {w : World} {P : Nat → Prop} {n : Nat} {L : List Sx.Tr} {v : Value} (h : EL w P n L v) : Sx.wE (n + 1) L = Sx.wE n L := by
  obtain ⟨a, c, rfl⟩ := h.slice
  exact h.wE
theorem SL.wS_up {w : World} {P : Nat → Prop} {n : Nat} : ∀ {l : List Sx.Tr} {v : Value}, SL w P n l v → Sx.wS (n + 1) l = Sx.wS n l := by
  induction n with
  | zero => intro l v h; cases h
  | succ n ih =>
    intro l v h
    rw [SL_succ] at h
    show l.length + Sx.sum (fun d => Sx.wE (n + 1) (Sx.sE d) + Sx.wS (n + 1) (Sx.sB d) + Sx.wS (n + 1) (Sx.sO d)) l = l.length + Sx.sum (fun d => Sx.wE n (Sx.sE d) + Sx.wS n (Sx.sB d) + Sx.wS n (Sx.sO d)) l
    rw [sum_congr (fun d => Sx.wE (n + 1) (Sx.sE d) + Sx.wS (n + 1) (Sx.sB d) + Sx.wS (n + 1) (Sx.sO d)) (fun d => Sx.wE n (Sx.sE d) + Sx.wS n (Sx.sB d) + Sx.wS n (Sx.sO d)) (l := l)]
    intro i d hd
    obtain ⟨c, D, at', A, B, T, k, E, body, els, uE, uB, uL, rfl, -, h3, h4, h5⟩ := h.mem d (List.mem_of_getElem? hd)
    show Sx.wE (n + 1) E + Sx.wS (n + 1) body + Sx.wS (n + 1) els = Sx.wE n E + Sx.wS n body + Sx.wS n els
    rw [h3.wE_up, ih h4, ih h5]
theorem SL.wS_more {w : World} {P : Nat → Prop} {n : Nat} {l : List Sx.Tr} {v : Value} (h : SL w P n l v) (k : Nat) : Sx.wS (n + k) l = Sx.wS n l := by
  induction k with
  | zero => rfl
  | succ k ih => rw [← Nat.add_assoc, (h.more k).wS_up, ih]
theorem Sm.raise {w : World} {P : Nat → Prop} {n : Nat} {l : List Sx.Tr} {v : Value} (hs : Sm n l) (h : Sl (RG w P n) w P l v) {m : Nat} (hm : n ≤ m) : Sm m l := by
  obtain ⟨k, rfl⟩ : ∃ k, m = n + k := ⟨m - n, by omega⟩
  refine ⟨hs.len, hs.ps, ?_⟩
  have e : Sx.wG (n + k) l = Sx.wG n l := by
    show Sx.sum (fun d => Sx.wS (n + k) (Sx.gB d)) l = Sx.sum (fun d => Sx.wS n (Sx.gB d)) l
    rw [sum_congr (fun d => Sx.wS (n + k) (Sx.gB d)) (fun d => Sx.wS n (Sx.gB d)) (l := l)]
    intro i d hd
    obtain ⟨c, nm, at', ps, body, uP, uB, rfl, -, -, h4⟩ := h.mem d (List.mem_of_getElem? hd)
    exact h4.wS_more k
  rw [e]
  exact hs.w

theorem parsed_back (n : Nat) (hn : 30 ≤ n) (l : List Sx.Tr) (h : (Rn.told n l).1 = 0) : (Rn.pt n l).length ≤ 12000 ∧ ∃ l' s', Sx.parsed (Rn.pt n l) = .inl (l', s', []) ∧ ∀ m, Sx.sameG m l l' = true := by
  have h12 : (Rn.pf n l).1 = 0 ∧ (Rn.pt n l).length ≤ 12000 := by
    unfold Rn.told at h
    by_cases h1 : (Rn.pf n l).1 ≠ 0
    · rw [if_pos h1] at h; exact absurd h h1
    rw [if_neg h1] at h
    by_cases h2 : 12000 < (Rn.pt n l).length
    · rw [if_pos h2] at h; simp at h
    exact ⟨by simpa using h1, by omega⟩
  have hc := Tk.scan_count (Rn.pt n l)
  obtain ⟨q0, l', s', q1, q2⟩ := Rb.text_back n 72001 12001 hn (by omega) l h12.1 h12.2 (Sx.prog_wet _ _ _ _ (by omega) (by omega))
  refine ⟨h12.2, l', s', ?_, q2⟩
  unfold Sx.parsed Sx.parse
  rw [if_neg (by simpa using q0)]
  exact q1

set_option maxRecDepth 100000 in
set_option maxHeartbeats 1000000 in
theorem rcheck_any (n : Nat) (w : World) (P : Nat → Prop) (l : List Sx.Tr) (a : Option Addr) (c : Nat) (hT : Tb w) (h : Sl (RG w P n) w P l (.slice a l.length c)) (hN : Nm n l) :
    Calls Tryz.prog 15 #[.agg #[.slice a l.length c]] w fun e w' => e = .returned (.agg #[.int .i64 (Rn.told n l).1, .int .i64 (Rn.told n l).2]) ∧ Kp [] w w' := by
  have K2 : Hid (Kp [] w ((w.alloc (.cells #[.slice a l.length c] 24)).alloc (.cells #[.int .i64 0, .int .i64 0] 29))) := hide (((Kp.refl _ _).alloc _).alloc _)
  have HC := hide (print_any n _ P l a c (hT.kp K2.out) (h.keep K2.out (by simp) (fun d c h => h.keep K2.out (by simp))) hN)
  have B2 : Hid (FB w (.slice a l.length c) ((w.alloc (.cells #[.slice a l.length c] 24)).alloc (.cells #[.int .i64 0, .int .i64 0] 29))) := hide ⟨K2.out, by simp [go_sem], by simp [go_sem], by simp [go_sem], by simp [go_sem], by simp [go_sem]⟩
  clear h hT hN K2
  generalize Rn.told n l = F at *
  go_enter Tryz.func15, Tryz.ntmps15
  go_wp2_with fail
  refine HC.out.mono ?_
  rintro e w3 ⟨rfl, hk3⟩
  obtain ⟨k5, -, r0, r1, f0, f1⟩ := B2.out.go hk3
  have hb4 := World.block_lt_of_cell? _ _ r0
  clear hk3 HC
  go_wp2
  refine bodyPost_ret (v := .agg #[.int .i64 F.1, .int .i64 F.2]) (by simp [results, Tryz.results15, go_sem, r0, r1, hb4]) rfl ⟨rfl, ?_⟩
  exact ((k5.nb (by omega) _ _).nb (by omega) _ _).alloc _

set_option maxRecDepth 100000 in
set_option maxHeartbeats 2000000 in
theorem back_any (N : Nat) (hN : 1000003 ≤ N) (w : World) (hT : Tb w) (P : Nat → Prop) (l : List Sx.Tr) (a : Option Addr) (cap : Nat)
    (h : Sl (RG w P N) w P l (.slice a l.length cap)) (hb : LbG N l) :
    Calls Tryz.prog 4 #[.agg #[.slice a l.length cap]] w fun e w' => e = .returned (.bool true) ∧ Kp [] w w' := by
  have HT := hide hT
  have H1 := hide h
  have HB := hide hb
  have en : min N 1000002 = 1000002 := by omega
  clear hT h hb
  go_enter Tryz.func4, Tryz.ntmps4
  go_wp2_with fail
  refine (rbegun_any _ (HT.out.kp ((Kp.refl _ _).alloc _))).mono ?_
  rintro e w1 ⟨rfl, hk1⟩
  have K1 : Hid (Kp [] w w1) := hide (((Kp.refl [] _).alloc _).trans hk1)
  have x0 : w1.cell? ⟨w.heap.size, 0, none⟩ = some (.slice a l.length cap) := hk1.some (by simp [go_sem]) (by simp)
  clear hk1
  go_wp2_with fail
  refine (greatN_any N _ P l a cap (GL.kept H1.out K1.out) HB.out).mono ?_
  rintro e w2 ⟨g, rfl, hg, hk2⟩
  have K2 := hide (K1.out.trans hk2)
  have y0 := hk2.some x0 (by simp)
  clear hk2 x0
  cases g with
  | true =>
    go_wp2
    go_ret
    exact ⟨rfl, K2.out⟩
  | false =>
  obtain ⟨hs, hgn⟩ := hg rfl
  obtain ⟨hNm, hlow⟩ := lower_GL hs hgn
  rw [en] at hNm hlow
  have HS := hide hs
  have CA : Hid (∀ w', Kp [] w w' → Calls Tryz.prog 11 #[.agg #[.slice a l.length cap]] w' fun e w'' => e = .returned (.tuple #[.string (bs (Rn.ptx 1000002 l)), .agg #[.int .i64 (Rn.told 1000002 l).1, .int .i64 (Rn.told 1000002 l).2]]) ∧ Kp [] w' w'') :=
    hide (fun w' k => print_any 1000002 w' P l a cap (HT.out.kp k) (hlow _ _ _ (GL.kept H1.out k)) hNm)
  have CC : Hid (∀ w', Kp [] w w' → Calls Tryz.prog 15 #[.agg #[.slice a l.length cap]] w' fun e w'' => e = .returned (.agg #[.int .i64 (Rn.told 1000002 l).1, .int .i64 (Rn.told 1000002 l).2]) ∧ Kp [] w' w'') :=
    hide (fun w' k => rcheck_any 1000002 w' P l a cap (HT.out.kp k) (hlow _ _ _ (GL.kept H1.out k)) hNm)
  have PB := hide (parsed_back 1000002 (by omega) l)
  have EX : Hid (Rn.ptx 1000002 l = if (Rn.told 1000002 l).1 ≠ 0 then [] else Rn.pt 1000002 l) := rfl
  clear hg hs hgn hNm hlow
  generalize Rn.told 1000002 l = F at *
  generalize Rn.pt 1000002 l = X at *
  generalize Rn.ptx 1000002 l = Y at *
  go_wp2_with fail
  refine (CA.out _ K2.out).mono ?_
  rintro e w4 ⟨rfl, hk4⟩
  have K4 := hide (K2.out.trans hk4)
  have u0 := hk4.some y0 (by simp)
  have hb4 := World.block_lt_of_cell? _ _ u0
  clear hk4 y0
  by_cases hF : F.1 = 0
  · have q1 : (F.1 != 0) = false := by simpa using hF
    have eY : Y = X := by rw [EX.out, if_neg (by simpa using hF)]
    subst eY
    obtain ⟨hl, l', s', hp, hsm⟩ := PB.out hF
    have hsz : (bs Y).size ≤ 12000 := by rw [bsz]; exact hl
    have CP : Hid (∀ w', Kp [] w w' → Calls Tryz.prog 16 #[.string (bs Y)] w' fun e w'' => ∃ m a2 cap2, e = .returned (.tuple #[.agg #[.slice a2 l'.length cap2], .agg #[.int .i64 0, .int .i64 0]]) ∧ Sl (RG w'' (fun b => w'.heap.size ≤ b) m) w'' (fun b => w'.heap.size ≤ b) l' (.slice a2 l'.length cap2) ∧ Kp [] w' w'') := hide (fun w' k => by
      have := parse_text (bs Y) w' (HT.out.kp k).words hsz
      rw [bs_list, hp] at this
      exact this)
    have CS : Hid (∀ (w' : World) (P2 : Nat → Prop) (m : Nat) (a2 : Option Addr) (cap2 : Nat), Kp [] w w' → Sl (RG w' P2 m) w' P2 l' (.slice a2 l'.length cap2) → Calls Tryz.prog 17 #[.agg #[.slice a l.length cap], .agg #[.slice a2 l'.length cap2]] w' fun e w'' => e = .returned (.bool true) ∧ Kp [] w' w'') := hide (fun w' P2 m a2 cap2 k h2 => by
      have h1 := GL.kept H1.out k
      have := same_any (N + m) w' P P2 l l' a a2 cap cap2 (GL.raise h1 (by omega)) (GL.raise h2 (by omega)) (Sm.raise HS.out h1 (by omega))
      rw [hsm (N + m)] at this
      exact this)
    clear CA CC PB EX hF hp hsm hl
    go_wp2_with fail
    refine (CP.out _ (K4.out.alloc _)).mono ?_
    rintro e w5 ⟨m, a2, cap2, rfl, hq, hk5⟩
    have K5 := hide ((K4.out.alloc (.cells #[.int .i64 F.1, .int .i64 F.2] 29)).trans hk5)
    have k5 : Kp [] w4 w5 := ((Kp.refl [] w4).alloc _).trans hk5
    have v0 := k5.some u0 (by simp)
    have hb5 := World.block_lt_of_cell? _ _ v0
    have HQ := hide hq
    clear hk5 k5 hq
    go_wp2_with fail
    refine (CS.out _ _ m a2 cap2 ((K5.out.alloc _).alloc _) (GL.kept HQ.out (((Kp.refl _ _).alloc _).alloc _))).mono ?_
    rintro e w6 ⟨rfl, hk6⟩
    have K6 := hide (((K5.out.alloc _).alloc _).trans hk6)
    clear hk6
    go_wp2
    go_ret
    refine ⟨?_, K6.out⟩
    simp_all
    omega
  · have q1 : (F.1 != 0) = true := by simpa using hF
    have KA : Hid (Kp [] w (w4.alloc (.cells #[.int .i64 F.1, .int .i64 F.2] 29))) := hide (K4.out.alloc _)
    have a0 : (w4.alloc (.cells #[.int .i64 F.1, .int .i64 F.2] 29)).cell? ⟨w.heap.size, 0, none⟩ = some (.slice a l.length cap) := ((Kp.refl [] w4).alloc _).some u0 (by simp)
    have a1 : (w4.alloc (.cells #[.int .i64 F.1, .int .i64 F.2] 29)).cell? ⟨w4.heap.size, 0, none⟩ = some (.int .i64 F.1) := by simp [go_sem]
    have a2 : (w4.alloc (.cells #[.int .i64 F.1, .int .i64 F.2] 29)).cell? ⟨w4.heap.size, 1, none⟩ = some (.int .i64 F.2) := by simp [go_sem]
    clear CA PB EX hF
    go_wp2_with fail
    generalize w4.alloc (.cells #[.int .i64 F.1, .int .i64 F.2] 29) = w5 at *
    go_region_held_law (fun w' => w'.cell? ⟨w.heap.size, 0, none⟩ = some (.slice a l.length cap) ∧ w'.cell? ⟨w4.heap.size, 0, none⟩ = some (.int .i64 F.1) ∧ w'.cell? ⟨w4.heap.size, 1, none⟩ = some (.int .i64 F.2)) ((first | exact ⟨by assumption, by assumption, by assumption⟩ | go_keep))
      ((go_at_call 15; refine (CC.out _ (KA.out.trans ?_)).mono ?_; (repeat (first | exact Kp.refl [] _ | refine Kp.drew ?_ | refine Kp.alloc ?_ _)); rintro e w6 ⟨rfl, hk6⟩; have k6 : Kp [] w5 w6 := Kp.trans (by (repeat (first | exact Kp.refl [] _ | refine Kp.drew ?_ | refine Kp.alloc ?_ _))) hk6; have L6 := hide (KA.out.trans k6); have s0 := k6.some a0 (by simp); have s1 := k6.some a1 (by simp); have s2 := k6.some a2 (by simp); clear hk6 k6))
    all_goals
      go_wp2
      go_ret
      exact ⟨by simp, L6.out⟩
end Go.Proofs.YtdbciaihnikibacGreatDoor

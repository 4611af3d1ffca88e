import Derived.Test.YtbepaimbbclejaaStF
import Derived.Deep.RegionHeld3
import Derived.Deep.AppendLies
/- Package chans: Make. -/
namespace Go.Proofs.Ytbepaimbbclejaa
open Go.RowKit

set_option maxRecDepth 100000
set_option maxHeartbeats 2000000
theorem Try.infoPc : (Try.prog.info? 63).map (fun i => (i.zero, i.size, i.bytes)) = some (some (.pointer none), 1, 8) := by kernel_rfl
theorem ch_new {B n : Nat} {X1 : World} {r : Nat} {sl : Int} (h : RJ X1 r (.slice none 0 0) sl.toNat []) (hB : B ≤ X1.heap.size) (hr : B ≤ r) (hn : n ≤ X1.heap.size) : CH B (X1.alloc (.cells #[.pointer (some ⟨r, 0, none⟩), .int .i64 1, .bool false] 77)) (X1.heap.size, r, .slice none 0 0) (max sl 0) 1 [] false ∧ n ≤ X1.heap.size ∧ X1.heap.size ≠ r := by
  have hl := h.lt.1
  refine ⟨⟨by simp [go_sem], by simp [go_sem], by simp [go_sem], fun k => by simp [go_sem], ?_, by omega, hB, hr, fun b hb => by cases hb⟩, hn, by omega⟩
  have := h.keep (X := fun _ => True) (Kx.of_below ((Below.refl X1.heap.size X1).alloc (Nat.le_refl _) (.cells #[.pointer (some ⟨r, 0, none⟩), .int .i64 1, .bool false] 77))) trivial (fun _ _ => trivial)
  have e : (max sl 0).toNat = sl.toNat := by omega
  rw [e]
  exact this
section
variable {B : Nat} {w : World} {q pl : Nat} {ve vc : Value} {P : List Pl} {E : List En} {S N : List Int} {I : List (List (Int × Int))} {G : List Bool}
theorem csMake_no (w : World) (q : Nat) (sl tk : Int) (ht : tk < 0) : Calls Try.prog 17 #[.pointer (some ⟨q, 0, none⟩), .int .i64 sl, .int .i64 tk] w fun r w' => r = .returned (.tuple #[.int .i64 (-1), .int .i64 (-1)]) ∧ w' = w := by
  have HT := hide (isTask_any tk)
  rw [decide_eq_false (by omega : ¬ 0 ≤ tk)] at HT
  go_enter Try.func17, Try.ntmps17
  go_wp2_with fail
  refine (HT.out _).mono ?_
  rintro e w2 ⟨rfl, rfl⟩
  go_wp2
  go_ret2
  exact ⟨rfl, rfl⟩
theorem csMake_yes (h : ST B w q pl ve vc P E S N I G) (hle : E.length ≤ 100000) (hlp : P.length ≤ 100000) (sl tk : Int) (ht : 0 ≤ tk) (hBw : B ≤ w.heap.size) : Calls Try.prog 17 #[.pointer (some ⟨q, 0, none⟩), .int .i64 sl, .int .i64 tk] w fun r w' => r = .returned (.tuple #[.int .i64 (E.length : Int), .int .i64 ((E.length + 1 : Nat) : Int)]) ∧ ∃ ve' vc' P', ST B w' q pl ve' vc' P' (E ++ [⟨P.length, true, tk, 0⟩, ⟨P.length, false, tk, 0⟩]) (S ++ [max sl 0]) (N ++ [1]) (I ++ [[]]) (G ++ [false]) ∧ BC w w' (sob q pl ve vc P) (sob q pl ve' vc' P') := by
    have HT := hide (isTask_any tk)
    rw [decide_eq_true ht] at HT
    obtain ⟨i0, hi, hz0, hz1, hz2⟩ := info_parts Try.infoPc
    obtain ⟨a, cp, rfl⟩ : ∃ a c, vc = .slice a P.length c := by
      rcases h.oc.2 with ⟨h1, h0⟩ | ⟨g, cap, cur, hv, hg, rest⟩
      · exact ⟨none, 0, by rw [h1, h0]⟩
      · exact ⟨_, cap, hv⟩
    have HNw : Hid (∀ X, Below w.heap.size w X → Calls Try.prog 39 #[.int .i64 sl] X fun e w' => ∃ u, e = .returned u ∧ (∃ r, u = .pointer (some ⟨r, 0, none⟩) ∧ w.heap.size ≤ r ∧ RJ w' r (.slice none 0 0) sl.toNat [] ∧ Below X.heap.size X w')) := hide (fun X hX => (newj sl X).mono (fun e w' h => ⟨_, h.1, _, rfl, hX.size, h.2.1, h.2.2.1⟩))
    have HQ : Hid (∀ X, Below w.heap.size w X → X.cell? ⟨q, 1, none⟩ = some (.slice a P.length cp)) := hide (fun X hX => bsome hX h.c1)
    have HO : Hid (∀ X, Below w.heap.size w X → X.ownsRow B 63 1 (.slice a P.length cp) P.length (pcl P)) := hide (fun X hX => (h.keep hX).oc)
    have HB1 : Hid (∀ X, LG B X pl ve E → Calls Try.prog 40 #[.pointer (some ⟨pl, 0, none⟩), .int .i64 (P.length : Int), .bool true, .int .i64 tk] X fun r w' => r = .returned (.int .i64 (E.length : Int)) ∧ ∃ ve', LG B w' pl ve' (E ++ [⟨(P.length : Int), true, tk, 0⟩]) ∧ LC X w' pl ve ve') := hide (fun X hX => by
      have := born_any hX (P.length : Int) true tk (by omega)
      unfold Ld.born at this
      rw [if_pos (by omega), if_pos (by omega)] at this
      exact this)
    have HB2 : Hid (∀ X v, LG B X pl v (E ++ [⟨(P.length : Int), true, tk, 0⟩]) → Calls Try.prog 40 #[.pointer (some ⟨pl, 0, none⟩), .int .i64 (P.length : Int), .bool false, .int .i64 tk] X fun r w' => r = .returned (.int .i64 ((E.length + 1 : Nat) : Int)) ∧ ∃ ve', LG B w' pl ve' (E ++ [⟨(P.length : Int), true, tk, 0⟩, ⟨(P.length : Int), false, tk, 0⟩]) ∧ LC X w' pl v ve') := hide (fun X v hX => by
      have := born_any hX (P.length : Int) false tk (by simp; omega)
      unfold Ld.born at this
      rw [if_pos (by omega), if_pos (by omega)] at this
      simpa using this)
    have hql := h.ql
    have c1 := h.c1
    have htq := h.t 1
    have hqv : some q ≠ (Value.slice a P.length cp).ownBlock := fun e => absurd (h.dj 0 3 q rfl (by show some (Value.slice a P.length cp).ownBlock = _; rw [← e])) (by decide)
    have KB : Hid (Below w.heap.size w w.drew) := hide (below_drewN (Below.refl _ _) 1)
    have HH := hide h
    clear h ht
    go_enter Try.func17, Try.ntmps17
    go_wp2_with fail
    refine (HT.out _).mono ?_
    rintro e w2 ⟨rfl, hw2⟩
    subst w2
    clear HT
    go_wp2
    refine wp_region_noPanic ?_
    refine wp_region_held_drew (S := fun _ => True) (by kernel_rfl) trivial (fun hH => ?_)
    clear hH
    generalize hX : w.drew = X at *
    clear hX
    refine wpAnyH_take (i := 0) (oi := _) (v := ?_) rfl (by kernel_rfl) (by kernel_rfl) (by kernel_rfl) (fun _ _ _ h => h) (Or.inl ⟨by rfl, ?_⟩) (by trivial) ?_
    rotate_left
    focus (intro w' hSw; clear hSw; go_simp; (first | done | with_reducible rfl))
    try simp only [Act.put]
    refine wpAnyH_take (i := 1) (oi := _) (v := ?_) rfl (by kernel_rfl) (by kernel_rfl) (by kernel_rfl) (fun _ _ _ h => h) (Or.inl ⟨by rfl, ?_⟩) (by trivial) ?_
    rotate_left
    focus (intro w' hSw; clear hSw; go_simp; (first | done | with_reducible rfl))
    try simp only [Act.put]
    refine wpAnyH_take (i := 2) (oi := _) (v := ?_) rfl (by kernel_rfl) (by kernel_rfl) (by kernel_rfl) (fun _ _ _ h => h) (Or.inl ⟨by rfl, ?_⟩) (by trivial) ?_
    rotate_left
    focus (intro w' hSw; clear hSw; go_simp; (first | done | with_reducible rfl))
    try simp only [Act.put]
    refine wpAnyH_take (i := 3) (oi := _) (v := ?_) rfl (by kernel_rfl) (by kernel_rfl) (by kernel_rfl) (fun _ _ _ h => h) (Or.inl ⟨by rfl, ?_⟩) (by trivial) ?_
    rotate_left
    focus (intro w' hSw; clear hSw; go_simp; (first | done | with_reducible rfl))
    try simp only [Act.put]
    refine wpAnyH_take (i := 5) (oi := _) (v := ?_) rfl (by kernel_rfl) (by kernel_rfl) (by kernel_rfl) (fun _ _ _ h => h) (Or.inl ⟨by rfl, ?_⟩) (by trivial) ?_
    rotate_left
    focus (intro w' hSw; clear hSw; go_simp; (first | done | with_reducible rfl))
    try simp only [Act.put]
    refine wpAnyH_ready (rs := [4, 6]) (by kernel_rfl) (by simp) ?_
    refine AllReadyH.cons rfl (fun K hK => ?_) (AllReadyH.cons rfl (fun K hK => ?_) AllReadyH.nil)
    · have q1 := HQ.out _ KB.out
      go_simp
      refine hK.out _ _ trivial (fun hH2 => ?_)
      clear hK K hH2
      try simp only [Act.put]
      clear q1
      refine wpAnyH_ready (rs := [6]) (by kernel_rfl) (by simp) ?_
      refine AllReadyH.cons rfl (fun K hK => ?_) AllReadyH.nil
      refine step_call_w (by rfl) 39 #[.int .i64 sl] ?_ (HNw.out _ KB.out) ?_
      focus (go_simp; done)
      rintro v1 X1 ⟨r, rfl, hrw, hr, hb1⟩
      refine hK.out _ _ trivial (fun hH2 => ?_)
      clear hK K hH2
      try simp only [Act.put]
      have KB := hide (btrans KB.out hb1)
      have HR := hide hr
      clear hb1 hr
      refine wpAnyH_take (i := 7) (oi := _) (v := ?_) rfl (by kernel_rfl) (by kernel_rfl) (by kernel_rfl) (fun _ _ _ h => h) (Or.inl ⟨by rfl, ?_⟩) (by trivial) ?_
      rotate_left
      focus (intro w' hSw; clear hSw; go_simp; (first | done | with_reducible rfl))
      try simp only [Act.put]
      refine wpAnyH_ready (rs := [8]) (by kernel_rfl) (by simp) ?_
      refine AllReadyH.cons rfl (fun K hK => ?_) AllReadyH.nil
      go_simp
      refine hK.out _ _ trivial (fun hH2 => ?_)
      clear hK K hH2
      try simp only [Act.put]
      have HCh : Hid (CH B (X1.alloc (.cells #[.pointer (some ⟨r, 0, none⟩), .int .i64 1, .bool false] 77)) (X1.heap.size, r, .slice none 0 0) (max sl 0) 1 [] false ∧ w.heap.size ≤ X1.heap.size ∧ X1.heap.size ≠ r) := hide (ch_new HR.out (Nat.le_trans hBw KB.out.size) (Nat.le_trans hBw hrw) KB.out.size)
      have KB2 : Hid (Below w.heap.size w (X1.alloc (.cells #[.pointer (some ⟨r, 0, none⟩), .int .i64 1, .bool false] 77))) := hide (KB.out.alloc KB.out.size _)
      generalize X1.alloc (.cells #[.pointer (some ⟨r, 0, none⟩), .int .i64 1, .bool false] 77) = X2 at *
      generalize X1.heap.size = pc at *
      clear HR KB
      refine wpAnyH_ready (rs := [9]) (by kernel_rfl) (by simp) ?_
      refine AllReadyH.cons rfl (fun K hK => ?_) AllReadyH.nil
      go_simp
      refine hK.out _ _ trivial (fun hH2 => ?_)
      clear hK K hH2
      try simp only [Act.put]
      have HCN := hide (cell_one_new X2 (.pointer (some ⟨pc, 0, none⟩)) 63)
      have HC3 : Hid (CH B (X2.alloc (.cells #[.pointer (some ⟨pc, 0, none⟩)] 63)) (pc, r, .slice none 0 0) (max sl 0) 1 [] false) := hide (HCh.out.1.keep (X := fun _ => True) (Kx.of_below ((Below.refl _ _).alloc (Nat.le_refl _) _)) trivial trivial (fun _ _ => trivial))
      have KB3 : Hid (Below w.heap.size w (X2.alloc (.cells #[.pointer (some ⟨pc, 0, none⟩)] 63))) := hide (KB2.out.alloc KB2.out.size _)
      generalize X2.alloc (.cells #[.pointer (some ⟨pc, 0, none⟩)] 63) = X3 at *
      generalize X2.heap.size = gb at *
      refine wpAnyH_ready (rs := [10]) (by kernel_rfl) (by simp) ?_
      refine AllReadyH.cons rfl (fun K hK => ?_) AllReadyH.nil
      refine step_append_lies _ rfl _ _ 43 rfl B 63 i0 (.pointer none) 1 8 Try.underlying43 hi hz0 hz1 hz2 rfl (by decide) (.slice a P.length cp) P.length (pcl P) (by rfl) (HO.out _ KB3.out) ⟨gb, 0, none⟩ 1 1 [.pointer (some ⟨pc, 0, none⟩)] (by rfl) rfl (by exact HCN.out) (by intro u hu; simp at hu; subst hu; rfl) (by decide) (by unfold maxLen; omega) (by omega) (Nat.le_trans hBw KB3.out.size) _ rfl ?_
      intro gq cap X4 hown hgrow hat hlt7
      refine hK.out _ _ trivial (fun hH2 => ?_)
      clear hK K hH2
      try simp only [Act.put]
      have HK4 : Hid (Kx (fun b => some b ≠ (Value.slice a P.length cp).ownBlock) X3 X4) := hide ((Kx.refl _ X3).grown hgrow (fun k hk => .inr (fun e => e hk.symm)))
      have HV4 : Hid ((Value.slice (some ⟨gq, 0, none⟩) (P.length + 1) cap).ownBlock = (Value.slice a P.length cp).ownBlock ∨ ∃ b, (Value.slice (some ⟨gq, 0, none⟩) (P.length + 1) cap).ownBlock = some b ∧ X3.heap.size ≤ b) := hide (hat.imp (fun e => e.symm) (fun e => ⟨gq, rfl, by rw [e]; exact Nat.le_refl _⟩))
      have HF := hide (HH.out.push KB3.out HC3.out HCh.out.2.1 hrw HCh.out.2.2 HK4.out hown HV4.out)
      have c4 : X4.cell? ⟨q, 1, none⟩ = some (.slice a P.length cp) := HK4.out.cell (HQ.out _ KB3.out) hqv
      have t4 : X4.frozen? ⟨q, 1, none⟩ = false := (HK4.out.frozen (p := ⟨q, 1, none⟩) (Nat.lt_of_lt_of_le hql KB3.out.size) hqv).trans ((KB3.out.frozen (p := ⟨q, 1, none⟩) hql).trans htq)
      clear hown hgrow hat hlt7
      refine wpAnyH_take (i := 11) (oi := _) (v := ?_) rfl (by kernel_rfl) (by kernel_rfl) (by kernel_rfl) (fun _ _ _ h => h) (Or.inl ⟨by rfl, ?_⟩) (by trivial) ?_
      rotate_left
      focus (intro w' hSw; clear hSw; go_simp; (first | done | with_reducible rfl))
      try simp only [Act.put]
      refine wpAnyH_take (i := 12) (oi := _) (v := ?_) rfl (by kernel_rfl) (by kernel_rfl) (by kernel_rfl) (fun _ _ _ h => h) (Or.inl ⟨by rfl, ?_⟩) (by trivial) ?_
      rotate_left
      focus (intro w' hSw; clear hSw; go_simp; (first | done | with_reducible rfl))
      try simp only [Act.put]
      refine wpAnyH_ready (rs := [13]) (by kernel_rfl) (by simp) ?_
      refine AllReadyH.cons rfl (fun K hK => ?_) AllReadyH.nil
      go_simp
      refine hK.out _ _ trivial (fun hH2 => ?_)
      clear hK K hH2
      try simp only [Act.put]
      refine wpAnyH_done (by kernel_rfl) (NoPanic.normal ?_) _
      have q5 := HF.out.1.c0
      clear c4 t4
      go_wp2_with fail
      refine (HB1.out _ HF.out.1.lg).mono ?_
      rintro e X6 ⟨rfl, v1', hlg, hlc⟩
      have HL1 := hide (HF.out.1.led hlg hlc)
      have q6 := HL1.out.1.c0
      clear hlg hlc
      go_wp2_with fail
      refine (HB2.out _ _ HL1.out.1.lg).mono ?_
      rintro e X7 ⟨rfl, v2', hlg, hlc⟩
      have HL2 := hide (HL1.out.1.led hlg hlc)
      clear hlg hlc
      go_wp2
      go_ret2
      exact ⟨rfl, _, _, _, HL2.out.1, HF.out.2.trans (HL1.out.2.trans HL2.out.2)⟩
    · refine step_call_w (by rfl) 39 #[.int .i64 sl] ?_ (HNw.out _ KB.out) ?_
      focus (go_simp; done)
      rintro v1 X1 ⟨r, rfl, hrw, hr, hb1⟩
      refine hK.out _ _ trivial (fun hH2 => ?_)
      clear hK K hH2
      try simp only [Act.put]
      have KB := hide (btrans KB.out hb1)
      have HR := hide hr
      clear hb1 hr
      refine wpAnyH_take (i := 7) (oi := _) (v := ?_) rfl (by kernel_rfl) (by kernel_rfl) (by kernel_rfl) (fun _ _ _ h => h) (Or.inl ⟨by rfl, ?_⟩) (by trivial) ?_
      rotate_left
      focus (intro w' hSw; clear hSw; go_simp; (first | done | with_reducible rfl))
      try simp only [Act.put]
      refine wpAnyH_ready (rs := [4, 8]) (by kernel_rfl) (by simp) ?_
      refine AllReadyH.cons rfl (fun K hK => ?_) (AllReadyH.cons rfl (fun K hK => ?_) AllReadyH.nil)
      · have q1 := HQ.out _ KB.out
        go_simp
        refine hK.out _ _ trivial (fun hH2 => ?_)
        clear hK K hH2
        try simp only [Act.put]
        clear q1
        refine wpAnyH_ready (rs := [8]) (by kernel_rfl) (by simp) ?_
        refine AllReadyH.cons rfl (fun K hK => ?_) AllReadyH.nil
        go_simp
        refine hK.out _ _ trivial (fun hH2 => ?_)
        clear hK K hH2
        try simp only [Act.put]
        have HCh : Hid (CH B (X1.alloc (.cells #[.pointer (some ⟨r, 0, none⟩), .int .i64 1, .bool false] 77)) (X1.heap.size, r, .slice none 0 0) (max sl 0) 1 [] false ∧ w.heap.size ≤ X1.heap.size ∧ X1.heap.size ≠ r) := hide (ch_new HR.out (Nat.le_trans hBw KB.out.size) (Nat.le_trans hBw hrw) KB.out.size)
        have KB2 : Hid (Below w.heap.size w (X1.alloc (.cells #[.pointer (some ⟨r, 0, none⟩), .int .i64 1, .bool false] 77))) := hide (KB.out.alloc KB.out.size _)
        generalize X1.alloc (.cells #[.pointer (some ⟨r, 0, none⟩), .int .i64 1, .bool false] 77) = X2 at *
        generalize X1.heap.size = pc at *
        clear HR KB
        refine wpAnyH_ready (rs := [9]) (by kernel_rfl) (by simp) ?_
        refine AllReadyH.cons rfl (fun K hK => ?_) AllReadyH.nil
        go_simp
        refine hK.out _ _ trivial (fun hH2 => ?_)
        clear hK K hH2
        try simp only [Act.put]
        have HCN := hide (cell_one_new X2 (.pointer (some ⟨pc, 0, none⟩)) 63)
        have HC3 : Hid (CH B (X2.alloc (.cells #[.pointer (some ⟨pc, 0, none⟩)] 63)) (pc, r, .slice none 0 0) (max sl 0) 1 [] false) := hide (HCh.out.1.keep (X := fun _ => True) (Kx.of_below ((Below.refl _ _).alloc (Nat.le_refl _) _)) trivial trivial (fun _ _ => trivial))
        have KB3 : Hid (Below w.heap.size w (X2.alloc (.cells #[.pointer (some ⟨pc, 0, none⟩)] 63))) := hide (KB2.out.alloc KB2.out.size _)
        generalize X2.alloc (.cells #[.pointer (some ⟨pc, 0, none⟩)] 63) = X3 at *
        generalize X2.heap.size = gb at *
        refine wpAnyH_ready (rs := [10]) (by kernel_rfl) (by simp) ?_
        refine AllReadyH.cons rfl (fun K hK => ?_) AllReadyH.nil
        refine step_append_lies _ rfl _ _ 43 rfl B 63 i0 (.pointer none) 1 8 Try.underlying43 hi hz0 hz1 hz2 rfl (by decide) (.slice a P.length cp) P.length (pcl P) (by rfl) (HO.out _ KB3.out) ⟨gb, 0, none⟩ 1 1 [.pointer (some ⟨pc, 0, none⟩)] (by rfl) rfl (by exact HCN.out) (by intro u hu; simp at hu; subst hu; rfl) (by decide) (by unfold maxLen; omega) (by omega) (Nat.le_trans hBw KB3.out.size) _ rfl ?_
        intro gq cap X4 hown hgrow hat hlt7
        refine hK.out _ _ trivial (fun hH2 => ?_)
        clear hK K hH2
        try simp only [Act.put]
        have HK4 : Hid (Kx (fun b => some b ≠ (Value.slice a P.length cp).ownBlock) X3 X4) := hide ((Kx.refl _ X3).grown hgrow (fun k hk => .inr (fun e => e hk.symm)))
        have HV4 : Hid ((Value.slice (some ⟨gq, 0, none⟩) (P.length + 1) cap).ownBlock = (Value.slice a P.length cp).ownBlock ∨ ∃ b, (Value.slice (some ⟨gq, 0, none⟩) (P.length + 1) cap).ownBlock = some b ∧ X3.heap.size ≤ b) := hide (hat.imp (fun e => e.symm) (fun e => ⟨gq, rfl, by rw [e]; exact Nat.le_refl _⟩))
        have HF := hide (HH.out.push KB3.out HC3.out HCh.out.2.1 hrw HCh.out.2.2 HK4.out hown HV4.out)
        have c4 : X4.cell? ⟨q, 1, none⟩ = some (.slice a P.length cp) := HK4.out.cell (HQ.out _ KB3.out) hqv
        have t4 : X4.frozen? ⟨q, 1, none⟩ = false := (HK4.out.frozen (p := ⟨q, 1, none⟩) (Nat.lt_of_lt_of_le hql KB3.out.size) hqv).trans ((KB3.out.frozen (p := ⟨q, 1, none⟩) hql).trans htq)
        clear hown hgrow hat hlt7
        refine wpAnyH_take (i := 11) (oi := _) (v := ?_) rfl (by kernel_rfl) (by kernel_rfl) (by kernel_rfl) (fun _ _ _ h => h) (Or.inl ⟨by rfl, ?_⟩) (by trivial) ?_
        rotate_left
        focus (intro w' hSw; clear hSw; go_simp; (first | done | with_reducible rfl))
        try simp only [Act.put]
        refine wpAnyH_take (i := 12) (oi := _) (v := ?_) rfl (by kernel_rfl) (by kernel_rfl) (by kernel_rfl) (fun _ _ _ h => h) (Or.inl ⟨by rfl, ?_⟩) (by trivial) ?_
        rotate_left
        focus (intro w' hSw; clear hSw; go_simp; (first | done | with_reducible rfl))
        try simp only [Act.put]
        refine wpAnyH_ready (rs := [13]) (by kernel_rfl) (by simp) ?_
        refine AllReadyH.cons rfl (fun K hK => ?_) AllReadyH.nil
        go_simp
        refine hK.out _ _ trivial (fun hH2 => ?_)
        clear hK K hH2
        try simp only [Act.put]
        refine wpAnyH_done (by kernel_rfl) (NoPanic.normal ?_) _
        have q5 := HF.out.1.c0
        clear c4 t4
        go_wp2_with fail
        refine (HB1.out _ HF.out.1.lg).mono ?_
        rintro e X6 ⟨rfl, v1', hlg, hlc⟩
        have HL1 := hide (HF.out.1.led hlg hlc)
        have q6 := HL1.out.1.c0
        clear hlg hlc
        go_wp2_with fail
        refine (HB2.out _ _ HL1.out.1.lg).mono ?_
        rintro e X7 ⟨rfl, v2', hlg, hlc⟩
        have HL2 := hide (HL1.out.1.led hlg hlc)
        clear hlg hlc
        go_wp2
        go_ret2
        exact ⟨rfl, _, _, _, HL2.out.1, HF.out.2.trans (HL1.out.2.trans HL2.out.2)⟩
      · go_simp
        refine hK.out _ _ trivial (fun hH2 => ?_)
        clear hK K hH2
        try simp only [Act.put]
        have HCh : Hid (CH B (X1.alloc (.cells #[.pointer (some ⟨r, 0, none⟩), .int .i64 1, .bool false] 77)) (X1.heap.size, r, .slice none 0 0) (max sl 0) 1 [] false ∧ w.heap.size ≤ X1.heap.size ∧ X1.heap.size ≠ r) := hide (ch_new HR.out (Nat.le_trans hBw KB.out.size) (Nat.le_trans hBw hrw) KB.out.size)
        have KB2 : Hid (Below w.heap.size w (X1.alloc (.cells #[.pointer (some ⟨r, 0, none⟩), .int .i64 1, .bool false] 77))) := hide (KB.out.alloc KB.out.size _)
        generalize X1.alloc (.cells #[.pointer (some ⟨r, 0, none⟩), .int .i64 1, .bool false] 77) = X2 at *
        generalize X1.heap.size = pc at *
        clear HR KB
        refine wpAnyH_ready (rs := [4, 9]) (by kernel_rfl) (by simp) ?_
        refine AllReadyH.cons rfl (fun K hK => ?_) (AllReadyH.cons rfl (fun K hK => ?_) AllReadyH.nil)
        · have q1 := HQ.out _ KB2.out
          go_simp
          refine hK.out _ _ trivial (fun hH2 => ?_)
          clear hK K hH2
          try simp only [Act.put]
          clear q1
          refine wpAnyH_ready (rs := [9]) (by kernel_rfl) (by simp) ?_
          refine AllReadyH.cons rfl (fun K hK => ?_) AllReadyH.nil
          go_simp
          refine hK.out _ _ trivial (fun hH2 => ?_)
          clear hK K hH2
          try simp only [Act.put]
          have HCN := hide (cell_one_new X2 (.pointer (some ⟨pc, 0, none⟩)) 63)
          have HC3 : Hid (CH B (X2.alloc (.cells #[.pointer (some ⟨pc, 0, none⟩)] 63)) (pc, r, .slice none 0 0) (max sl 0) 1 [] false) := hide (HCh.out.1.keep (X := fun _ => True) (Kx.of_below ((Below.refl _ _).alloc (Nat.le_refl _) _)) trivial trivial (fun _ _ => trivial))
          have KB3 : Hid (Below w.heap.size w (X2.alloc (.cells #[.pointer (some ⟨pc, 0, none⟩)] 63))) := hide (KB2.out.alloc KB2.out.size _)
          generalize X2.alloc (.cells #[.pointer (some ⟨pc, 0, none⟩)] 63) = X3 at *
          generalize X2.heap.size = gb at *
          refine wpAnyH_ready (rs := [10]) (by kernel_rfl) (by simp) ?_
          refine AllReadyH.cons rfl (fun K hK => ?_) AllReadyH.nil
          refine step_append_lies _ rfl _ _ 43 rfl B 63 i0 (.pointer none) 1 8 Try.underlying43 hi hz0 hz1 hz2 rfl (by decide) (.slice a P.length cp) P.length (pcl P) (by rfl) (HO.out _ KB3.out) ⟨gb, 0, none⟩ 1 1 [.pointer (some ⟨pc, 0, none⟩)] (by rfl) rfl (by exact HCN.out) (by intro u hu; simp at hu; subst hu; rfl) (by decide) (by unfold maxLen; omega) (by omega) (Nat.le_trans hBw KB3.out.size) _ rfl ?_
          intro gq cap X4 hown hgrow hat hlt7
          refine hK.out _ _ trivial (fun hH2 => ?_)
          clear hK K hH2
          try simp only [Act.put]
          have HK4 : Hid (Kx (fun b => some b ≠ (Value.slice a P.length cp).ownBlock) X3 X4) := hide ((Kx.refl _ X3).grown hgrow (fun k hk => .inr (fun e => e hk.symm)))
          have HV4 : Hid ((Value.slice (some ⟨gq, 0, none⟩) (P.length + 1) cap).ownBlock = (Value.slice a P.length cp).ownBlock ∨ ∃ b, (Value.slice (some ⟨gq, 0, none⟩) (P.length + 1) cap).ownBlock = some b ∧ X3.heap.size ≤ b) := hide (hat.imp (fun e => e.symm) (fun e => ⟨gq, rfl, by rw [e]; exact Nat.le_refl _⟩))
          have HF := hide (HH.out.push KB3.out HC3.out HCh.out.2.1 hrw HCh.out.2.2 HK4.out hown HV4.out)
          have c4 : X4.cell? ⟨q, 1, none⟩ = some (.slice a P.length cp) := HK4.out.cell (HQ.out _ KB3.out) hqv
          have t4 : X4.frozen? ⟨q, 1, none⟩ = false := (HK4.out.frozen (p := ⟨q, 1, none⟩) (Nat.lt_of_lt_of_le hql KB3.out.size) hqv).trans ((KB3.out.frozen (p := ⟨q, 1, none⟩) hql).trans htq)
          clear hown hgrow hat hlt7
          refine wpAnyH_take (i := 11) (oi := _) (v := ?_) rfl (by kernel_rfl) (by kernel_rfl) (by kernel_rfl) (fun _ _ _ h => h) (Or.inl ⟨by rfl, ?_⟩) (by trivial) ?_
          rotate_left
          focus (intro w' hSw; clear hSw; go_simp; (first | done | with_reducible rfl))
          try simp only [Act.put]
          refine wpAnyH_take (i := 12) (oi := _) (v := ?_) rfl (by kernel_rfl) (by kernel_rfl) (by kernel_rfl) (fun _ _ _ h => h) (Or.inl ⟨by rfl, ?_⟩) (by trivial) ?_
          rotate_left
          focus (intro w' hSw; clear hSw; go_simp; (first | done | with_reducible rfl))
          try simp only [Act.put]
          refine wpAnyH_ready (rs := [13]) (by kernel_rfl) (by simp) ?_
          refine AllReadyH.cons rfl (fun K hK => ?_) AllReadyH.nil
          go_simp
          refine hK.out _ _ trivial (fun hH2 => ?_)
          clear hK K hH2
          try simp only [Act.put]
          refine wpAnyH_done (by kernel_rfl) (NoPanic.normal ?_) _
          have q5 := HF.out.1.c0
          clear c4 t4
          go_wp2_with fail
          refine (HB1.out _ HF.out.1.lg).mono ?_
          rintro e X6 ⟨rfl, v1', hlg, hlc⟩
          have HL1 := hide (HF.out.1.led hlg hlc)
          have q6 := HL1.out.1.c0
          clear hlg hlc
          go_wp2_with fail
          refine (HB2.out _ _ HL1.out.1.lg).mono ?_
          rintro e X7 ⟨rfl, v2', hlg, hlc⟩
          have HL2 := hide (HL1.out.1.led hlg hlc)
          clear hlg hlc
          go_wp2
          go_ret2
          exact ⟨rfl, _, _, _, HL2.out.1, HF.out.2.trans (HL1.out.2.trans HL2.out.2)⟩
        · go_simp
          refine hK.out _ _ trivial (fun hH2 => ?_)
          clear hK K hH2
          try simp only [Act.put]
          have HCN := hide (cell_one_new X2 (.pointer (some ⟨pc, 0, none⟩)) 63)
          have HC3 : Hid (CH B (X2.alloc (.cells #[.pointer (some ⟨pc, 0, none⟩)] 63)) (pc, r, .slice none 0 0) (max sl 0) 1 [] false) := hide (HCh.out.1.keep (X := fun _ => True) (Kx.of_below ((Below.refl _ _).alloc (Nat.le_refl _) _)) trivial trivial (fun _ _ => trivial))
          have KB3 : Hid (Below w.heap.size w (X2.alloc (.cells #[.pointer (some ⟨pc, 0, none⟩)] 63))) := hide (KB2.out.alloc KB2.out.size _)
          generalize X2.alloc (.cells #[.pointer (some ⟨pc, 0, none⟩)] 63) = X3 at *
          generalize X2.heap.size = gb at *
          refine wpAnyH_ready (rs := [4]) (by kernel_rfl) (by simp) ?_
          refine AllReadyH.cons rfl (fun K hK => ?_) AllReadyH.nil
          have q1 := HQ.out _ KB3.out
          go_simp
          refine hK.out _ _ trivial (fun hH2 => ?_)
          clear hK K hH2
          try simp only [Act.put]
          clear q1
          refine wpAnyH_ready (rs := [10]) (by kernel_rfl) (by simp) ?_
          refine AllReadyH.cons rfl (fun K hK => ?_) AllReadyH.nil
          refine step_append_lies _ rfl _ _ 43 rfl B 63 i0 (.pointer none) 1 8 Try.underlying43 hi hz0 hz1 hz2 rfl (by decide) (.slice a P.length cp) P.length (pcl P) (by rfl) (HO.out _ KB3.out) ⟨gb, 0, none⟩ 1 1 [.pointer (some ⟨pc, 0, none⟩)] (by rfl) rfl (by exact HCN.out) (by intro u hu; simp at hu; subst hu; rfl) (by decide) (by unfold maxLen; omega) (by omega) (Nat.le_trans hBw KB3.out.size) _ rfl ?_
          intro gq cap X4 hown hgrow hat hlt7
          refine hK.out _ _ trivial (fun hH2 => ?_)
          clear hK K hH2
          try simp only [Act.put]
          have HK4 : Hid (Kx (fun b => some b ≠ (Value.slice a P.length cp).ownBlock) X3 X4) := hide ((Kx.refl _ X3).grown hgrow (fun k hk => .inr (fun e => e hk.symm)))
          have HV4 : Hid ((Value.slice (some ⟨gq, 0, none⟩) (P.length + 1) cap).ownBlock = (Value.slice a P.length cp).ownBlock ∨ ∃ b, (Value.slice (some ⟨gq, 0, none⟩) (P.length + 1) cap).ownBlock = some b ∧ X3.heap.size ≤ b) := hide (hat.imp (fun e => e.symm) (fun e => ⟨gq, rfl, by rw [e]; exact Nat.le_refl _⟩))
          have HF := hide (HH.out.push KB3.out HC3.out HCh.out.2.1 hrw HCh.out.2.2 HK4.out hown HV4.out)
          have c4 : X4.cell? ⟨q, 1, none⟩ = some (.slice a P.length cp) := HK4.out.cell (HQ.out _ KB3.out) hqv
          have t4 : X4.frozen? ⟨q, 1, none⟩ = false := (HK4.out.frozen (p := ⟨q, 1, none⟩) (Nat.lt_of_lt_of_le hql KB3.out.size) hqv).trans ((KB3.out.frozen (p := ⟨q, 1, none⟩) hql).trans htq)
          clear hown hgrow hat hlt7
          refine wpAnyH_take (i := 11) (oi := _) (v := ?_) rfl (by kernel_rfl) (by kernel_rfl) (by kernel_rfl) (fun _ _ _ h => h) (Or.inl ⟨by rfl, ?_⟩) (by trivial) ?_
          rotate_left
          focus (intro w' hSw; clear hSw; go_simp; (first | done | with_reducible rfl))
          try simp only [Act.put]
          refine wpAnyH_take (i := 12) (oi := _) (v := ?_) rfl (by kernel_rfl) (by kernel_rfl) (by kernel_rfl) (fun _ _ _ h => h) (Or.inl ⟨by rfl, ?_⟩) (by trivial) ?_
          rotate_left
          focus (intro w' hSw; clear hSw; go_simp; (first | done | with_reducible rfl))
          try simp only [Act.put]
          refine wpAnyH_ready (rs := [13]) (by kernel_rfl) (by simp) ?_
          refine AllReadyH.cons rfl (fun K hK => ?_) AllReadyH.nil
          go_simp
          refine hK.out _ _ trivial (fun hH2 => ?_)
          clear hK K hH2
          try simp only [Act.put]
          refine wpAnyH_done (by kernel_rfl) (NoPanic.normal ?_) _
          have q5 := HF.out.1.c0
          clear c4 t4
          go_wp2_with fail
          refine (HB1.out _ HF.out.1.lg).mono ?_
          rintro e X6 ⟨rfl, v1', hlg, hlc⟩
          have HL1 := hide (HF.out.1.led hlg hlc)
          have q6 := HL1.out.1.c0
          clear hlg hlc
          go_wp2_with fail
          refine (HB2.out _ _ HL1.out.1.lg).mono ?_
          rintro e X7 ⟨rfl, v2', hlg, hlc⟩
          have HL2 := hide (HL1.out.1.led hlg hlc)
          clear hlg hlc
          go_wp2
          go_ret2
          exact ⟨rfl, _, _, _, HL2.out.1, HF.out.2.trans (HL1.out.2.trans HL2.out.2)⟩
end
end Go.Proofs.Ytbepaimbbclejaa

import Derived.Test.YtfngmdebmedkjacGreatDoorSynY
import Derived.Test.YtfngmdebmedkjacGreatDoorSnI
/- A statement, walked (spawn is owed). -/
namespace Go.Proofs.YtfngmdebmedkjacGreatDoor
open Go.RowKit

/-- What is owed of a plain statement of kind D. -/
def CP (D : Nat) (f : Nat) : Prop := ∀ (c : Cx) (w : World) (n : Nat) (s : Sx.St) (sb : Nat) (at' : Int), RD c w n s → c.apart sb → S9 w sb D at' ⟨#[]⟩ ⟨#[]⟩ ⟨#[]⟩ 0 (.slice none 0 0) (.slice none 0 0) (.slice none 0 0) → ¬ Dry (Sx.plain c.e f D s (c.full.drop n)) →
    Calls Tryz.prog 191 #[.pointer (some ⟨c.rb, 0, none⟩), .pointer (some ⟨sb, 0, none⟩)] w (Post c [sb, c.rb] w (encF w sb D at') (Sx.plain c.e f D s (c.full.drop n)))
def CN (D : Nat) (f : Nat) : Prop := ∀ (c : Cx) (w : World) (n : Nat) (s : Sx.St) (sb : Nat) (at' : Int), RD c w n s → c.apart sb → S9 w sb D at' ⟨#[]⟩ ⟨#[]⟩ ⟨#[]⟩ 0 (.slice none 0 0) (.slice none 0 0) (.slice none 0 0) → ¬ Dry (Sx.nest c.e f D s (c.full.drop n)) →
    Calls Tryz.prog 190 #[.pointer (some ⟨c.rb, 0, none⟩), .pointer (some ⟨sb, 0, none⟩)] w (Post c [sb, c.rb] w (encB w sb D at') (Sx.nest c.e f D s (c.full.drop n)))
theorem doOf_lt (x : List UInt8) : Sx.doOf x ≤ 14 := by
  unfold Sx.doOf
  split <;> omega
theorem doOf_txt {ts : List Tk.Tok} (h : Sx.doOf (Sx.txt ts) ≠ 0) : ts ≠ [] := by
  intro e
  rw [e] at h
  exact h rfl

/-- The end of a method that hands a statement back: its own variable lies first. -/
theorem fin_stmt {c : Cx} {w wl : World} {n' : Nat} {s' : Sx.St} {d : Sx.Tr} {D at' N : Int} {A B T : ByteArray} {u0 u1 u2 : Value} (HB : c.below w.heap.size) (hk : Kp [c.rb] w wl) (hd : RD c wl n' s') {m : Nat}
    (h0 : ∃ a n cap, u0 = .slice a n cap) (h1 : ∃ a n cap, u1 = .slice a n cap) (h2 : ∃ a n cap, u2 = .slice a n cap)
    (hv : RS wl (fun b => w.heap.size + 1 ≤ b) m d [.int .i64 D, .int .i64 at', .string A, .string B, .string T, .int .i64 N, u0, u1, u2]) :
    Post c [c.rb] w (encSt w) (.inl ([d], s', c.full.drop n')) (.returned (.agg #[.int .i64 D, .int .i64 at', .string A, .string B, .string T, .int .i64 N, u0, u1, u2]))
      (((((((((wl.setCell ⟨w.heap.size, 0, none⟩ (.int .i64 D)).setCell ⟨w.heap.size, 1, none⟩ (.int .i64 at')).setCell ⟨w.heap.size, 2, none⟩ (.string A)).setCell ⟨w.heap.size, 3, none⟩ (.string B)).setCell ⟨w.heap.size, 4, none⟩ (.string T)).setCell ⟨w.heap.size, 5, none⟩ (.int .i64 N)).setCell ⟨w.heap.size, 6, none⟩ u0).setCell ⟨w.heap.size, 7, none⟩ u1).setCell ⟨w.heap.size, 8, none⟩ u2) := by
  have kz : Kp [w.heap.size] wl (((((((((wl.setCell ⟨w.heap.size, 0, none⟩ (.int .i64 D)).setCell ⟨w.heap.size, 1, none⟩ (.int .i64 at')).setCell ⟨w.heap.size, 2, none⟩ (.string A)).setCell ⟨w.heap.size, 3, none⟩ (.string B)).setCell ⟨w.heap.size, 4, none⟩ (.string T)).setCell ⟨w.heap.size, 5, none⟩ (.int .i64 N)).setCell ⟨w.heap.size, 6, none⟩ u0).setCell ⟨w.heap.size, 7, none⟩ u1).setCell ⟨w.heap.size, 8, none⟩ u2) :=
    Kp.rb (Kp.rb (Kp.rb (Kp.rb (Kp.rb (Kp.rb (Kp.rb (Kp.rb (Kp.rb (Kp.refl _ _) _ _) _ _) _ _) _ _) _ _) _ _) _ _) _ _) _ _
  refine ⟨_, n', rfl, ⟨m, d, D, at', A, B, T, N, u0, u1, u2, rfl, rfl, h0, h1, h2, ?_⟩, rfl, hd.keep kz (by have := HB.1; simp; omega) (fun hne => by have := HB.2 hne; simp; omega), ?_⟩
  · exact (hv.keep kz (by simp)).base (fun b _ hb => Nat.le_of_succ_le hb)
  · exact Kp.new ((hk.mono (by simp)).trans (kz.mono (S' := [w.heap.size, c.rb]) (by simp))) (Nat.le_refl _)

set_option maxRecDepth 100000 in
set_option maxHeartbeats 2000000 in
theorem stmt_none (f : Nat) (D : Nat) (hy : True) (c : Cx) (w : World) (n : Nat) (s : Sx.St) (h : RD c w n s) (hD : Sx.doOf (Sx.txt (c.full.drop n)) = D) (h0 : D = 0) (hf : ¬ Dry (Sx.ps c.e (f + 1) 1 [] s (c.full.drop n))) :
    Calls Tryz.prog 169 #[.pointer (some ⟨c.rb, 0, none⟩)] w (Post c [c.rb] w (encSt w) (Sx.ps c.e (f + 1) 1 [] s (c.full.drop n))) := by
  have hP := Sx.ps_1 c.e f [] s (c.full.drop n)
  rw [hD] at hP
  have hd1 := doOf_any (bs (Sx.txt (c.full.drop n)))
  rw [bs_list, hD] at hd1
  have HDO := hide hd1
  have HF := hide hf
  have HH := hide h
  have HB := hide h.lt
  have HHYP := hide hy
  have hr := h.rlt
  have q3 : ¬ c.rb = w.heap.size := by omega
  have q4 : ¬ c.rb = w.heap.size + 1 := by omega
  clear h hf hd1 hy
  generalize hpl : Sx.place c.e (c.full.drop n) = pl at *
  have HPL := hide hpl
  clear hpl
  rw [h0, if_pos rfl] at hP
  subst h0
  have HP := hide hP
  clear hP HHYP
  go_enter Tryz.func169, Tryz.ntmps169
  go_wp2_with fail
  refine (text_any c _ n s (by exact HH.out.alloc _)).mono ?_
  rintro e w1 ⟨rfl, k1, rfl⟩
  go_wp2_with fail
  refine (HDO.out _).mono ?_
  rintro e w1 ⟨rfl, hw1⟩
  rw [hw1]
  clear hw1 w1
  go_wp2_with fail
  refine (at_any c _ n s (by exact (HH.out.alloc _).drewN _)).mono ?_
  rintro e w1 ⟨rfl, k2, rfl⟩
  rw [HPL.out]
  go_wp2_with fail
  refine (unfit_any c _ n s (by exact ((HH.out.alloc _).alloc _).drewN _)).mono ?_
  rintro e w2 ⟨rfl, hb⟩
  go_wp2
  rw [HP.out]
  have e1 : (Sx.unfit c.e (c.full.drop n) : Sx.Rs (List Sx.Tr)) = .inr (Sx.ucode (c.full.drop n), pl, c.full.drop n) := by rw [← HPL.out]; rfl
  rw [e1, HPL.out]
  exact ⟨rfl, rfl, ((((Kp.refl _ _).alloc _).alloc _).drewN _).trans (Kp.of_below hb)⟩

set_option maxRecDepth 100000 in
set_option maxHeartbeats 2000000 in
theorem stmt_many (f : Nat) (D : Nat) (hy : True) (c : Cx) (w : World) (n : Nat) (s : Sx.St) (h : RD c w n s) (hD : Sx.doOf (Sx.txt (c.full.drop n)) = D) (h0 : D ≠ 0) (h300 : s.stmts = 300) (hf : ¬ Dry (Sx.ps c.e (f + 1) 1 [] s (c.full.drop n))) :
    Calls Tryz.prog 169 #[.pointer (some ⟨c.rb, 0, none⟩)] w (Post c [c.rb] w (encSt w) (Sx.ps c.e (f + 1) 1 [] s (c.full.drop n))) := by
  have hP := Sx.ps_1 c.e f [] s (c.full.drop n)
  rw [hD] at hP
  have hd1 := doOf_any (bs (Sx.txt (c.full.drop n)))
  rw [bs_list, hD] at hd1
  have HDO := hide hd1
  have HF := hide hf
  have HH := hide h
  have HB := hide h.lt
  have HHYP := hide hy
  have hr := h.rlt
  have q3 : ¬ c.rb = w.heap.size := by omega
  have q4 : ¬ c.rb = w.heap.size + 1 := by omega
  clear h hf hd1 hy
  generalize hpl : Sx.place c.e (c.full.drop n) = pl at *
  have HPL := hide hpl
  clear hpl
  rw [if_neg h0, if_pos h300] at hP
  have HP := hide hP
  have d0 : ((D : Int) == 0) = false := by simp; omega
  have c3 := HH.out.c3
  rw [h300] at c3
  clear hP HHYP h300 h0
  go_enter Tryz.func169, Tryz.ntmps169
  go_wp2_with fail
  refine (text_any c _ n s (by exact HH.out.alloc _)).mono ?_
  rintro e w1 ⟨rfl, k1, rfl⟩
  go_wp2_with fail
  refine (HDO.out _).mono ?_
  rintro e w1 ⟨rfl, hw1⟩
  rw [hw1]
  clear hw1 w1
  go_wp2_with fail
  refine (at_any c _ n s (by exact (HH.out.alloc _).drewN _)).mono ?_
  rintro e w1 ⟨rfl, k2, rfl⟩
  rw [HPL.out]
  go_wp2_with fail
  refine (fault_any 8 c _ n s (by exact ((HH.out.alloc _).alloc _).drewN _)).mono ?_
  rintro e w2 ⟨rfl, hb⟩
  go_wp2
  rw [HP.out]
  have e1 : (Sx.bad 8 c.e (c.full.drop n) : Sx.Rs (List Sx.Tr)) = .inr (8, pl, c.full.drop n) := by rw [← HPL.out]; rfl
  rw [e1, HPL.out]
  exact ⟨rfl, rfl, ((((Kp.refl _ _).alloc _).alloc _).drewN _).trans (Kp.of_below hb)⟩

set_option maxRecDepth 100000 in
set_option maxHeartbeats 2000000 in
theorem stmt_plain (f : Nat) (D : Nat) (hy : CP D f) (c : Cx) (w : World) (n : Nat) (s : Sx.St) (h : RD c w n s) (hD : Sx.doOf (Sx.txt (c.full.drop n)) = D) (h0 : D ≠ 0) (h11 : D < 11) (h300 : s.stmts ≠ 300) (hf : ¬ Dry (Sx.ps c.e (f + 1) 1 [] s (c.full.drop n))) :
    Calls Tryz.prog 169 #[.pointer (some ⟨c.rb, 0, none⟩)] w (Post c [c.rb] w (encSt w) (Sx.ps c.e (f + 1) 1 [] s (c.full.drop n))) := by
  have hP := Sx.ps_1 c.e f [] s (c.full.drop n)
  rw [hD] at hP
  have hd1 := doOf_any (bs (Sx.txt (c.full.drop n)))
  rw [bs_list, hD] at hd1
  have HDO := hide hd1
  have HF := hide hf
  have HH := hide h
  have HB := hide h.lt
  have HHYP := hide hy
  have hr := h.rlt
  have q3 : ¬ c.rb = w.heap.size := by omega
  have q4 : ¬ c.rb = w.heap.size + 1 := by omega
  clear h hf hd1 hy
  generalize hpl : Sx.place c.e (c.full.drop n) = pl at *
  have HPL := hide hpl
  clear hpl
  rw [if_neg h0, if_neg h300, if_pos h11, List.tail_drop] at hP
  have HP := hide hP
  have d0 : ((D : Int) == 0) = false := by simp; omega
  have d3 : ((s.stmts : Int) == 300) = false := by simp; omega
  have d11 : ((D : Int) == 11) = false := by simp; omega
  have d12 : ((D : Int) == 12) = false := by simp; omega
  have d13 : ((D : Int) == 13) = false := by simp; omega
  have d14 : ((D : Int) == 14) = false := by simp; omega
  have hlt : n < c.full.length := by
    rcases Nat.lt_or_ge n c.full.length with h1 | h1
    · exact h1
    · rw [List.drop_eq_nil_of_le h1] at hD
      exact absurd hD.symm h0
  have c3 := HH.out.c3
  have c1 := HH.out.c1
  have f1 := HH.out.fz 1
  have f3 := HH.out.fz 3
  have hm := HH.out.hm
  have b3 := HH.out.b3
  have hl3 : s.stmts < 300 := by omega
  have HF2 : Hid (¬ Dry (Sx.plain c.e f D s.stmt (c.full.drop (n + 1)))) := by
    have h1 := HF.out
    rw [hP] at h1
    exact Dry.bnd h1
  have HAP : Hid (c.apart (w.heap.size + 1)) := ⟨by omega, fun hne => by have := HB.out.2 hne; omega⟩
  clear hP h300 h11 h0 hD
  go_enter Tryz.func169, Tryz.ntmps169
  go_wp2_with fail
  refine (text_any c _ n s (by exact HH.out.alloc _)).mono ?_
  rintro e w1 ⟨rfl, k1, rfl⟩
  go_wp2_with fail
  refine (HDO.out _).mono ?_
  rintro e w1 ⟨rfl, hw1⟩
  rw [hw1]
  clear hw1 w1
  go_wp2_with fail
  refine (at_any c _ n s (by exact (HH.out.alloc _).drewN _)).mono ?_
  rintro e w1 ⟨rfl, k2, rfl⟩
  rw [HPL.out]
  go_wp2_with fail
  have S1 : Hid (S9 ((((( (w.alloc (.cells #[.int .i64 0, .int .i64 0, .string ⟨#[]⟩, .string ⟨#[]⟩, .string ⟨#[]⟩, .int .i64 0, .slice none 0 0, .slice none 0 0, .slice none 0 0] 97)).drewN (k1 + k2)).setCell ⟨c.rb, 3, none⟩ (.int .i64 ((s.stmts : Int) + 1))).setCell ⟨c.rb, 1, none⟩ (.int .i64 ((n : Int) + 1))).alloc (.cells #[.int .i64 D, .int .i64 pl, .string ⟨#[]⟩, .string ⟨#[]⟩, .string ⟨#[]⟩, .int .i64 0, .slice none 0 0, .slice none 0 0, .slice none 0 0] 97)))
      (w.heap.size + 1) D pl ⟨#[]⟩ ⟨#[]⟩ ⟨#[]⟩ 0 (.slice none 0 0) (.slice none 0 0) (.slice none 0 0)) := by
    have := S9.new (((w.alloc (.cells #[.int .i64 0, .int .i64 0, .string ⟨#[]⟩, .string ⟨#[]⟩, .string ⟨#[]⟩, .int .i64 0, .slice none 0 0, .slice none 0 0, .slice none 0 0] 97)).drewN (k1 + k2)).setCell ⟨c.rb, 3, none⟩ (.int .i64 ((s.stmts : Int) + 1)) |>.setCell ⟨c.rb, 1, none⟩ (.int .i64 ((n : Int) + 1))) D pl ⟨#[]⟩ ⟨#[]⟩ ⟨#[]⟩ 0 (.slice none 0 0) (.slice none 0 0) (.slice none 0 0) 97
    have e : (((w.alloc (.cells #[.int .i64 0, .int .i64 0, .string ⟨#[]⟩, .string ⟨#[]⟩, .string ⟨#[]⟩, .int .i64 0, .slice none 0 0, .slice none 0 0, .slice none 0 0] 97)).drewN (k1 + k2)).setCell ⟨c.rb, 3, none⟩ (.int .i64 ((s.stmts : Int) + 1)) |>.setCell ⟨c.rb, 1, none⟩ (.int .i64 ((n : Int) + 1))).heap.size = w.heap.size + 1 := by simp [World.setCell, World.drewN]
    rw [e] at this
    exact this
  have Z1 : Hid (S9 ((((( (w.alloc (.cells #[.int .i64 0, .int .i64 0, .string ⟨#[]⟩, .string ⟨#[]⟩, .string ⟨#[]⟩, .int .i64 0, .slice none 0 0, .slice none 0 0, .slice none 0 0] 97)).drewN (k1 + k2)).setCell ⟨c.rb, 3, none⟩ (.int .i64 ((s.stmts : Int) + 1))).setCell ⟨c.rb, 1, none⟩ (.int .i64 ((n : Int) + 1))).alloc (.cells #[.int .i64 D, .int .i64 pl, .string ⟨#[]⟩, .string ⟨#[]⟩, .string ⟨#[]⟩, .int .i64 0, .slice none 0 0, .slice none 0 0, .slice none 0 0] 97)))
      w.heap.size 0 0 ⟨#[]⟩ ⟨#[]⟩ ⟨#[]⟩ 0 (.slice none 0 0) (.slice none 0 0) (.slice none 0 0)) :=
    (S9.new w 0 0 ⟨#[]⟩ ⟨#[]⟩ ⟨#[]⟩ 0 (.slice none 0 0) (.slice none 0 0) (.slice none 0 0) 97).keep (S := [c.rb]) (Kp.alloc (Kp.rb (Kp.rb ((Kp.refl _ _).drewN _) _ _) _ _) _) (by simp; omega)
  have D1 : Hid (RD c ((((( (w.alloc (.cells #[.int .i64 0, .int .i64 0, .string ⟨#[]⟩, .string ⟨#[]⟩, .string ⟨#[]⟩, .int .i64 0, .slice none 0 0, .slice none 0 0, .slice none 0 0] 97)).drewN (k1 + k2)).setCell ⟨c.rb, 3, none⟩ (.int .i64 ((s.stmts : Int) + 1))).setCell ⟨c.rb, 1, none⟩ (.int .i64 ((n : Int) + 1))).alloc (.cells #[.int .i64 D, .int .i64 pl, .string ⟨#[]⟩, .string ⟨#[]⟩, .string ⟨#[]⟩, .int .i64 0, .slice none 0 0, .slice none 0 0, .slice none 0 0] 97))) (n + 1) s.stmt) :=
    ((((HH.out.alloc _).drewN _).stmt hl3).step hlt).alloc _
  have K1 : Hid (Kp [c.rb] w ((((( (w.alloc (.cells #[.int .i64 0, .int .i64 0, .string ⟨#[]⟩, .string ⟨#[]⟩, .string ⟨#[]⟩, .int .i64 0, .slice none 0 0, .slice none 0 0, .slice none 0 0] 97)).drewN (k1 + k2)).setCell ⟨c.rb, 3, none⟩ (.int .i64 ((s.stmts : Int) + 1))).setCell ⟨c.rb, 1, none⟩ (.int .i64 ((n : Int) + 1))).alloc (.cells #[.int .i64 D, .int .i64 pl, .string ⟨#[]⟩, .string ⟨#[]⟩, .string ⟨#[]⟩, .int .i64 0, .slice none 0 0, .slice none 0 0, .slice none 0 0] 97)))) :=
    Kp.alloc (Kp.rb (Kp.rb (((Kp.refl _ _).alloc _).drewN _) _ _) _ _) _
  generalize hW1 : ((((( (w.alloc (.cells #[.int .i64 0, .int .i64 0, .string ⟨#[]⟩, .string ⟨#[]⟩, .string ⟨#[]⟩, .int .i64 0, .slice none 0 0, .slice none 0 0, .slice none 0 0] 97)).drewN (k1 + k2)).setCell ⟨c.rb, 3, none⟩ (.int .i64 ((s.stmts : Int) + 1))).setCell ⟨c.rb, 1, none⟩ (.int .i64 ((n : Int) + 1))).alloc (.cells #[.int .i64 D, .int .i64 pl, .string ⟨#[]⟩, .string ⟨#[]⟩, .string ⟨#[]⟩, .int .i64 0, .slice none 0 0, .slice none 0 0, .slice none 0 0] 97))) = W1 at *
  have hW : w.heap.size + 1 < W1.heap.size := S1.out.lt
  clear hW1 c3 c1 f1 f3
  refine (HHYP.out c _ (n + 1) s.stmt (w.heap.size + 1) pl D1.out HAP.out S1.out HF2.out).mono ?_
  intro e w2 hp
  rcases hm2 : Sx.plain c.e f D s.stmt (c.full.drop (n + 1)) with ⟨x, s2, r2⟩ | ⟨code, p, rest⟩
  rotate_left
  · rw [hm2] at hp
    obtain ⟨rfl, hk⟩ := hp
    refine ⟨rfl, ?_⟩
    rw [HP.out, hm2]
    exact ⟨rfl, Kp.new ((K1.out.mono (by simp)).trans hk) (Nat.le_succ _)⟩
  rw [hm2] at hp
  obtain ⟨v2, n2, rfl, ⟨hv2, m, aE, cE, hS2, hE2⟩, hr2, hd2, hk2⟩ := hp
  have HP2 : Hid (Sx.ps c.e (f + 1) 1 [] s (c.full.drop n) = Sx.bnd (Sx.skp c.e [59] s2 (c.full.drop n2)) fun _ s r => .inl ([Sx.tS D pl x.A x.B x.T x.n x.E [] []], s, r)) := by
    show _ = _
    rw [HP.out, hm2, hr2]
    rfl
  have HS2 := hide hS2
  have HE2 := hide hE2
  have HD2 := hide hd2
  have HK2 := hide hk2
  have HZ2 := hide (Z1.out.keep hk2 (by simp; omega))
  clear hm2 hr2 hd2 hk2 hv2 hS2 hE2
  go_wp2_with fail
  refine (skip_any ⟨#[59]⟩ (by simp) c _ n2 s2 HD2.out).mono ?_
  intro e w3 hp
  rw [show (⟨#[59]⟩ : ByteArray).data.toList = [59] from rfl] at hp
  rcases hm3 : Sx.skp c.e [59] s2 (c.full.drop n2) with ⟨u3, s3, r3⟩ | ⟨code, p, rest⟩
  rotate_left
  · rw [hm3] at hp
    obtain ⟨rfl, hk⟩ := hp
    refine ⟨rfl, ?_⟩
    rw [HP2.out, hm3]
    exact ⟨rfl, Kp.new (((K1.out.mono (by simp)).trans HK2.out).trans (hk.mono (by simp))) (Nat.le_succ _)⟩
  rw [hm3] at hp
  obtain ⟨v3, n3, rfl, hv3, hr3, hd3, hk3⟩ := hp
  have HP3 : Hid (Sx.ps c.e (f + 1) 1 [] s (c.full.drop n) = .inl ([Sx.tS D pl x.A x.B x.T x.n x.E [] []], s3, c.full.drop n3)) := by
    show _ = _
    rw [HP2.out, hm3, hr3]
    rfl
  have HD3 := hide hd3
  have HK3 := hide hk3
  obtain ⟨x0, x1, x2, x3, x4, x5, x6, x7, x8, xf⟩ := HS2.out.keep hk3 (by simp; omega)
  obtain ⟨z0, z1, z2, z3, z4, z5, z6, z7, z8, zf⟩ := HZ2.out.keep hk3 (by simp; omega)
  clear hm3 hr3 hd3 hk3 hv3
  have KE : Hid (Kp [c.rb] w w3) := Kp.new (((K1.out.mono (by simp)).trans HK2.out).trans (HK3.out.mono (by simp))) (Nat.le_succ _)
  have HRS : Hid (RS w3 (fun b => w.heap.size + 1 ≤ b) (m + 1) (Sx.tS D pl x.A x.B x.T x.n x.E [] []) [.int .i64 D, .int .i64 pl, .string (bs x.A), .string (bs x.B), .string (bs x.T), .int .i64 x.n, .slice aE x.E.length cE, .slice none 0 0, .slice none 0 0]) := by
    refine ⟨D, pl, x.A, x.B, x.T, x.n, x.E, [], [], _, _, _, rfl, rfl, ?_, ?_, ?_⟩
    · exact ((HE2.out.keep HK3.out (by have := K1.out.size; simp; omega)).base (fun b _ hb => by have := K1.out.size; omega)).more 1
    · rw [show m + 1 = 1 + m from Nat.add_comm _ _]; exact (SL.nil _ _ _ _).more m
    · rw [show m + 1 = 1 + m from Nat.add_comm _ _]; exact (SL.nil _ _ _ _).more m
  generalize bs x.A = bA at *
  generalize bs x.B = bB at *
  generalize bs x.T = bT at *
  go_wp2
  refine bodyPost_ret (v := .agg #[.int .i64 D, .int .i64 pl, .string bA, .string bB, .string bT, .int .i64 x.n, .slice aE x.E.length cE, .slice none 0 0, .slice none 0 0]) (by simp [results, Tryz.results169, go_sem, z0, z1, z2, z3, z4, z5, z6, z7, z8]) rfl ?_
  rw [HP3.out]
  exact fin_stmt HB.out KE.out HD3.out ⟨_, _, _, rfl⟩ ⟨_, _, _, rfl⟩ ⟨_, _, _, rfl⟩ HRS.out
end Go.Proofs.YtfngmdebmedkjacGreatDoor

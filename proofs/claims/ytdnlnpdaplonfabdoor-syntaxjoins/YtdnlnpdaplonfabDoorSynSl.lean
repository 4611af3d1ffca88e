import Derived.Test.YtdnlnpdaplonfabDoorJnA
import Derived.Test.YtdnlnpdaplonfabDoorSnL
import Derived.Test.YtdnlnpdaplonfabDoorSynSt
/- Parse of two texts with a newline between, in plain lists. -/
namespace Go.Proofs.YtdnlnpdaplonfabDoor.Sx
open Go.Proofs.YtdnlnpdaplonfabDoor.Tk

theorem le_ps (e f g : Nat) (acc l : List Tr) (s s' : St) (ts r : List Tok) (h : ps e f g acc s ts = .inl (l, s', r)) (hs : s.stmts ≤ 300) : s'.stmts ≤ 300 := by
  induction f generalizing g acc l s s' ts r with
  | zero => cases h
  | succ f ih =>
    match g with
    | 0 =>
      rw [ps_0] at h
      split at h
      · cases h
      · obtain ⟨u1, s1, r1, h1, h2⟩ := bnd_ok h
        obtain ⟨l2, s2, r2, h3, h4⟩ := bnd_ok h2
        obtain ⟨u3, s3, r3, h5, h6⟩ := bnd_ok h4
        obtain ⟨rfl, rfl, rfl⟩ := inl_ok h6
        have hs1 := (skp_ok h1).2.1
        have hs3 := (skp_ok h5).2.1
        subst s1 s3
        exact ih 2 [] l2 s.up s2 r1 r2 h3 hs
    | 1 =>
      rw [ps_1] at h
      split at h
      · cases h
      · split at h
        · cases h
        · rename_i h300
          split at h
          · obtain ⟨x, s1, r1, h1, h2⟩ := bnd_ok h
            obtain ⟨u3, s3, r3, h5, h6⟩ := bnd_ok h2
            obtain ⟨rfl, rfl, rfl⟩ := inl_ok h6
            have hs3 := (skp_ok h5).2.1
            subst s3
            have hst : s1.stmts = s.stmts + 1 := (se_plain _ e f (doOf (txt ts)) s.stmt ts.tail rfl).of h1
            omega
          · obtain ⟨x, s1, r1, h1, h2⟩ := bnd_ok h
            obtain ⟨body, s2, r2, h3, h4⟩ := bnd_ok h2
            obtain ⟨els, s3, r3, h5, h6⟩ := bnd_ok h4
            obtain ⟨rfl, rfl, rfl⟩ := inl_ok h6
            have hst : s1.stmts = s.stmts + 1 := (se_nestA _ e f (doOf (txt ts)) s.stmt ts.tail rfl).of h1
            have g1 := ih 0 [] body s1 s2 r1 r2 h3 (by omega)
            split at h5
            · obtain ⟨u7, s7, r7, h7, h8⟩ := bnd_ok h5
              have hs7 := (skp_ok h7).2.1
              subst s7
              exact ih 0 [] els s2 s3 r7 r3 h8 g1
            · obtain ⟨rfl, rfl, rfl⟩ := inl_ok h5
              exact g1
    | g + 2 =>
      rw [ps_2 _ _ _ _ _ _ (by omega)] at h
      split at h
      · obtain ⟨rfl, rfl, rfl⟩ := inl_ok h
        exact hs
      · obtain ⟨l1, s1, r1, h1, h2⟩ := bnd_ok h
        exact ih 2 (acc ++ l1) l s1 s' r1 r h2 (ih 1 [] l1 s s1 ts r1 h1 hs)
theorem le_stages (e f j : Nat) (acc l : List Tr) (s s' : St) (ts r : List Tok) (h : stages e f j acc s ts = .inl (l, s', r)) (hs : s.stmts ≤ 300) (ha : acc.length ≤ 10) : s'.stmts ≤ 300 ∧ l.length ≤ 10 := by
  induction j generalizing acc s ts with
  | zero => cases h
  | succ j ih =>
    by_cases hts : ts = []
    · subst hts
      simp only [stages, List.isEmpty_nil, if_true] at h
      obtain ⟨rfl, rfl, rfl⟩ := inl_ok h
      exact ⟨hs, ha⟩
    · rw [stages_ne _ _ _ _ _ _ hts] at h
      split at h
      · cases h
      · rename_i h10
        obtain ⟨x, s1, r1, h1, h2⟩ := bnd_ok h
        have hw := stage_word h1
        have hs1 : s1.stmts ≤ 300 := by
          unfold stage at h1
          obtain ⟨u1, t1, q1, g1, g2⟩ := bnd_ok h1
          obtain ⟨nm, t2, q2, g3, g4⟩ := bnd_ok g2
          obtain ⟨pl, t3, q3, g5, g6⟩ := bnd_ok g4
          obtain ⟨body, t4, q4, g7, g8⟩ := bnd_ok g6
          obtain ⟨rfl, rfl, rfl⟩ := inl_ok g8
          have hst1 : t1.stmts = s.stmts := (se_skp rfl).of g1
          have hst2 : t2.stmts = t1.stmts := (se_name rfl).of g3
          have hst3 : t3.stmts = t2.stmts := (se_brk _ e _ (fun a s r h => se_par _ e a s r h) [] t2 q2 rfl).of g5
          exact le_ps _ _ _ _ _ _ _ _ _ g7 (by omega)
        exact ih _ _ _ h2 hs1 (by simp; have : acc.length ≠ 10 := fun e => h10 ⟨e, hw⟩; omega)
theorem le_prog (e f j : Nat) (ts : List Tok) (P : List Tr) (s : St) (r : List Tok) (h : prog e f j ts = .inl (P, s, r)) : s.stmts ≤ 300 ∧ P.length ≤ 10 ∧ 0 < P.length := by
  have hts : ts ≠ [] := by
    obtain ⟨pre, t, hp, -⟩ := prog_end _ _ _ _ _ _ _ h
    rw [hp]; simp
  rw [prog_stages _ _ _ _ hts] at h
  obtain ⟨a, b⟩ := le_stages _ _ _ _ _ _ _ _ _ h (by simp [s0]) (by simp)
  exact ⟨a, b, by simpa using ((stages_end _ _ _ _ _ _ _ _ _ h).2 hts).2⟩

theorem scan_both (l1 l2 : List UInt8) (h1 : l1.length ≤ 5900) (h2 : l2.length ≤ 5900) (c1 : (scan l1).2.1 = 0) (c2 : (scan l2).2.1 = 0) : (scan (l1 ++ 10 :: l2)).1 = (scan l1).1 ++ (scan l2).1.map (shift (l1.length + 1)) ∧ (scan (l1 ++ 10 :: l2)).2.1 = 0 := by
  rw [scan_join l1 l2 h1 h2]
  simp [comb2, comb, shiftR, c1, c2]
theorem parsed_prog {l : List UInt8} (h : (scan l).2.1 = 0) : parsed l = prog l.length 72001 12001 (scan l).1 := by
  unfold parsed parse
  rw [if_neg (by simpa using h)]
theorem join_wrong (l1 l2 : List UInt8) (h1 : l1.length ≤ 5900) (h2 : l2.length ≤ 5900) {c p : Int} {r : List Tok} (h : parsed l1 = .inr (c, p, r)) (hc : c = 5 ∨ c = 7) (c2 : (scan l2).2.1 = 0) : ∃ r', parsed (l1 ++ 10 :: l2) = .inr (c, p, r') := by
  have c1 : (scan l1).2.1 = 0 := by
    by_cases hc1 : (scan l1).2.1 = 0
    · exact hc1
    · exfalso
      unfold parsed parse at h
      rw [if_pos (by simpa using hc1)] at h
      simp only [Sum.inr.injEq, Prod.mk.injEq] at h
      have h4 : (scan l1).2.1 ≤ 4 := by
        unfold scan
        rw [if_neg (by omega)]
        exact Tk.tl_code _ _ _
      omega
  obtain ⟨e1, e2⟩ := scan_both l1 l2 h1 h2 c1 c2
  rw [parsed_prog c1] at h
  rw [parsed_prog e2, e1]
  have hne : (scan l1).1 ≠ [] := fun e => by
    rw [e] at h
    have := emp_stages l1.length 72001 12002 [] s0
    have h5 : prog l1.length 72001 12001 [] = .inr (6, (l1.length : Int), []) := rfl
    rw [h5] at h
    simp only [Sum.inr.injEq, Prod.mk.injEq] at h
    omega
  have hf := fe_prog l1.length (l1 ++ 10 :: l2).length 72001 12001 ((scan l2).1.map (shift (l1.length + 1))) (scan l1).1 hne
  rw [h] at hf
  exact ⟨_, hf hc⟩
theorem join_right (l1 l2 : List UInt8) (h1 : l1.length ≤ 5900) (h2 : l2.length ≤ 5900) {P Q : List Tr} {s s2 : St} {r r2 : List Tok} (hp : parsed l1 = .inl (P, s, r)) (hq : parsed l2 = .inl (Q, s2, r2)) :
    (P.length + Q.length ≤ 10 → s2.stmts + s.stmts ≤ 300 → ∃ Q' z q, parsed (l1 ++ 10 :: l2) = .inl (P ++ Q', z, q) ∧ ShG (l1.length + 1) Q Q') ∧
    (10 < P.length + Q.length ∨ 300 < s2.stmts + s.stmts → ∃ p q, parsed (l1 ++ 10 :: l2) = .inr (8, p, q)) := by
  obtain ⟨c1, g1⟩ := parsed_ok hp
  obtain ⟨c2, g2⟩ := parsed_ok hq
  obtain ⟨e1, e2⟩ := scan_both l1 l2 h1 h2 c1 c2
  rw [parsed_prog e2, e1]
  have hn1 := scan_count l1
  have hn2 := scan_count l2
  obtain ⟨k1, k2⟩ := prog_join (l1.length + 1) l1.length l2.length (l1 ++ 10 :: l2).length 72001 12001 _ _ P Q s s2 r r2 (by simp; omega) g1 g2
  have hle := le_prog _ _ _ _ _ _ _ g1
  exact ⟨k1, fun h => k2 hle.1 hle.2.1 h⟩
end Go.Proofs.YtdnlnpdaplonfabDoor.Sx

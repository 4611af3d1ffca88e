import Derived.Test.YtdnlnpdaplonfabDoorSynSl
import Derived.Test.YtdnlnpdaplonfabDoorSynEu
/- How much is read: no more than there are tokens. -/
namespace Go.Proofs.YtdnlnpdaplonfabDoor.Sx
open Go.Proofs.YtdnlnpdaplonfabDoor.Tk

theorem wE_app (n : Nat) (a b : List Tr) : wE n (a ++ b) = wE n a + wE n b := by
  cases n with
  | zero => rfl
  | succ n => simp only [wE, sum_app, List.length_append]; omega
theorem wS_app (n : Nat) (a b : List Tr) : wS n (a ++ b) = wS n a + wS n b := by
  cases n with
  | zero => rfl
  | succ n => simp only [wS, sum_app, List.length_append]; omega
theorem wE_mono (n : Nat) (l : List Tr) : wE n l ≤ wE (n + 1) l := by
  induction n generalizing l with
  | zero => exact Nat.zero_le _
  | succ n ih =>
    have := sum_mono (fun d => wE n (eL d)) (fun d => wE (n + 1) (eL d)) (fun d => ih (eL d)) l
    simp only [wE] at this ⊢
    omega
theorem wE_nil (n : Nat) : wE n [] = 0 := by cases n <;> rfl
theorem wS_nil (n : Nat) : wS n [] = 0 := by cases n <;> rfl
theorem wE_one (n : Nat) (op : Int) (nm : List UInt8) (k : Int) (L : List Tr) : wE n [tE op nm k L] ≤ 1 + wE n L := by
  cases n with
  | zero => exact Nat.zero_le _
  | succ n =>
    have := wE_mono n L
    simp only [wE, sum, eL, tE, List.length_cons, List.length_nil] at this ⊢
    omega
theorem wE_two (n : Nat) (x y : Tr) : wE n [x, y] = wE n [x] + wE n [y] := wE_app n [x] [y]
/-- What is read weighs no more than its parts. -/
theorem wt_pe (e f g : Nat) (x z : Tr) (s s' : St) (ts r : List Tok) (h : pe e f g x s ts = .inl (z, s', r)) : ∀ n, wE n [z] + s.parts ≤ (if g = 4 ∨ g = 5 then wE n [x] else 0) + s'.parts := by
  induction f generalizing g x z s s' ts r with
  | zero => cases h
  | succ f ih =>
    intro n
    rcases pe_kinds g with rfl | rfl | rfl | rfl | rfl | hg
    · rw [pe_0] at h
      obtain ⟨z1, s3, r3, h1, h2⟩ := bnd_ok h
      obtain ⟨y, s1, r1, h3, h4⟩ := bnd_ok h1
      have g1 := ih _ _ _ _ _ _ _ h3 n
      have hz : z1 = z ∧ s3 = s' := by
        split at h2
        · cases h2
        · exact ⟨(inl_ok h2).1, (inl_ok h2).2.1⟩
      obtain ⟨rfl, rfl⟩ := hz
      simp at g1 ⊢
      split at h4
      · obtain ⟨y2, s2, h5, rfl, rfl⟩ := join_ok h4
        have g2 := ih _ _ _ _ _ _ _ h5 n
        have := wE_one n 7 [] 0 [y, y2]
        rw [wE_two] at this
        simp [St.part] at g2 ⊢
        omega
      · split at h4
        · obtain ⟨y2, s2, h5, rfl, rfl⟩ := join_ok h4
          have g2 := ih _ _ _ _ _ _ _ h5 n
          have := wE_one n 8 [] 0 [y, y2]
          rw [wE_two] at this
          simp [St.part] at g2 ⊢
          omega
        · obtain ⟨rfl, rfl, rfl⟩ := inl_ok h4
          exact g1
    · rw [pe_1] at h
      obtain ⟨y, s1, r1, h3, h4⟩ := bnd_ok h
      have g1 := ih _ _ _ _ _ _ _ h3 n
      have g2 := ih _ _ _ _ _ _ _ h4 n
      simp at g1 g2 ⊢
      omega
    · rw [pe_2] at h
      obtain ⟨y, s1, r1, h3, h4⟩ := bnd_ok h
      have g1 := ih _ _ _ _ _ _ _ h3 n
      have g2 := ih _ _ _ _ _ _ _ h4 n
      simp at g1 g2 ⊢
      omega
    · rw [pe_4] at h
      split at h
      · obtain ⟨y, s1, r1, h3, h4⟩ := bnd_ok h
        obtain ⟨y2, s2, h5, rfl, rfl⟩ := join_ok h3
        have g1 := ih _ _ _ _ _ _ _ h5 n
        have g2 := ih _ _ _ _ _ _ _ h4 n
        have := wE_one n 4 [] 0 [x, y2]
        rw [wE_two] at this
        simp [St.part] at g1 g2 ⊢
        omega
      · split at h
        · obtain ⟨y, s1, r1, h3, h4⟩ := bnd_ok h
          obtain ⟨y2, s2, h5, rfl, rfl⟩ := join_ok h3
          have g1 := ih _ _ _ _ _ _ _ h5 n
          have g2 := ih _ _ _ _ _ _ _ h4 n
          have := wE_one n 5 [] 0 [x, y2]
          rw [wE_two] at this
          simp [St.part] at g1 g2 ⊢
          omega
        · obtain ⟨rfl, rfl, rfl⟩ := inl_ok h
          simp
    · rw [pe_5] at h
      split at h
      · obtain ⟨y, s1, r1, h3, h4⟩ := bnd_ok h
        obtain ⟨y2, s2, h5, rfl, rfl⟩ := join_ok h3
        have g1 := ih _ _ _ _ _ _ _ h5 n
        have g2 := ih _ _ _ _ _ _ _ h4 n
        have := wE_one n 6 [] 0 [x, y2]
        rw [wE_two] at this
        simp [St.part] at g1 g2 ⊢
        omega
      · obtain ⟨rfl, rfl, rfl⟩ := inl_ok h
        simp
    · rw [if_neg (by omega), Nat.zero_add]
      rw [pe_u _ _ _ _ _ _ hg] at h
      split at h
      · obtain ⟨_, s1, r1, h1, h2⟩ := bnd_ok h
        obtain ⟨y, s2, r2, h3, h4⟩ := bnd_ok h2
        obtain ⟨_, s3, r3, h5, h6⟩ := bnd_ok h4
        obtain ⟨rfl, rfl, rfl⟩ := inl_ok h6
        have g1 := ih _ _ _ _ _ _ _ h3 n
        have e1 := (ent_ok h1).2.1
        have e3 := (skp_ok h5).2.1
        subst e1 e3
        simp [St.shut] at g1 ⊢
        omega
      · split at h
        · obtain ⟨_, s1, r1, h1, h2⟩ := bnd_ok h
          obtain ⟨y, s2, r2, h3, h4⟩ := bnd_ok h2
          obtain ⟨rfl, rfl, rfl⟩ := inl_ok h4
          have g1 := ih _ _ _ _ _ _ _ h3 n
          have e1 := (ent_ok h1).2.1
          subst e1
          have := wE_one n 3 [] 0 [y]
          simp [St.shut, St.part] at g1 ⊢
          omega
        · split at h
          · obtain ⟨m, s1, r1, h1, h2⟩ := bnd_ok h
            obtain ⟨rfl, rfl, rfl⟩ := inl_ok h2
            obtain ⟨t, -, e1, -⟩ := numOf_ok h1
            subst e1
            have := wE_one n 1 [] m []
            rw [wE_nil] at this
            simp [St.part]
            omega
          · obtain ⟨m, s1, r1, h1, h2⟩ := bnd_ok h
            obtain ⟨rfl, rfl, rfl⟩ := inl_ok h2
            obtain ⟨t, -, e1, -⟩ := nameOf_ok h1
            subst e1
            have := wE_one n 2 m 0 []
            rw [wE_nil] at this
            simp [St.part]
            omega
theorem wt_brkL (e f j b : Nat) (acc l : List Tr) (s s' : St) (ts r : List Tok) (h : brkL e (argOne e f) j b acc s ts = .inl (l, s', r)) (n : Nat) : wE n l + s.parts ≤ wE n acc + s'.parts := by
  induction j generalizing b acc s ts with
  | zero => cases h
  | succ j ih =>
    simp only [brkL] at h
    split at h
    · split at h
      · cases h
      · obtain ⟨a, s1, r1, h1, h2⟩ := bnd_ok h
        obtain ⟨x, s2, r2, h3, h4⟩ := bnd_ok h1
        obtain ⟨rfl, rfl, rfl⟩ := inl_ok h4
        have g1 := wt_pe _ _ _ _ _ _ _ _ _ h3 n
        have g2 := ih _ _ _ _ h2
        rw [wE_app] at g2
        simp at g1
        omega
    · obtain ⟨rfl, rfl, rfl⟩ := inl_ok h
      exact Nat.le_refl _
theorem wt_brk (e f : Nat) (l : List Tr) (s s' : St) (ts r : List Tok) (h : brk e (argOne e f) [] s ts = .inl (l, s', r)) (n : Nat) : wE n l + s.parts ≤ s'.parts := by
  unfold brk at h
  obtain ⟨_, s1, r1, h1, h2⟩ := bnd_ok h
  obtain ⟨a, s2, r2, h3, h4⟩ := bnd_ok h2
  obtain ⟨_, s3, r3, h5, h6⟩ := bnd_ok h4
  obtain ⟨rfl, rfl, rfl⟩ := inl_ok h6
  have e1 := (skp_ok h1).2.1
  have e3 := (skp_ok h5).2.1
  subst e1 e3
  split at h3
  · obtain ⟨rfl, rfl, rfl⟩ := inl_ok h3
    rw [wE_nil]
    omega
  · obtain ⟨b, s4, r4, h7, h8⟩ := bnd_ok h3
    obtain ⟨x, s5, r5, h9, h10⟩ := bnd_ok h7
    obtain ⟨rfl, rfl, rfl⟩ := inl_ok h10
    have g1 := wt_pe _ _ _ _ _ _ _ _ _ h9 n
    have g2 := wt_brkL _ _ _ _ _ _ _ _ _ _ h8 n
    simp at g1 g2
    omega
theorem wt_plainB (e f d : Nat) (A : List UInt8) (s s' : St) (ts r : List Tok) (x : Flds) (h : plainB e f d A s ts = .inl (x, s', r)) (n : Nat) : wE n x.E + s.parts ≤ s'.parts := by
  have hk := (plainB_keeps _ _ _ _ _ _ _ _ _ h).pm
  unfold plainB at h
  split at h
  · obtain ⟨_, s1, r1, h1, h2⟩ := bnd_ok h
    obtain ⟨z, s2, r2, h3, h4⟩ := bnd_ok h2
    obtain ⟨rfl, rfl, rfl⟩ := inl_ok h4
    have e1 := (skp_ok h1).2.1
    subst e1
    have := wt_pe _ _ _ _ _ _ _ _ _ h3 n
    simpa using this
  · split at h
    · obtain ⟨z, s2, r2, h3, h4⟩ := bnd_ok h
      obtain ⟨rfl, rfl, rfl⟩ := inl_ok h4
      have := wt_pe _ _ _ _ _ _ _ _ _ h3 n
      simpa using this
    · split at h
      · obtain ⟨B, s1, r1, h1, h2⟩ := bnd_ok h
        obtain ⟨T, s2, r2, h3, h4⟩ := bnd_ok h2
        obtain ⟨m, s3, r3, h5, h6⟩ := bnd_ok h4
        obtain ⟨rfl, rfl, rfl⟩ := inl_ok h6
        show wE n [] + s.parts ≤ _
        rw [wE_nil]; omega
      · split at h
        · obtain ⟨B, s1, r1, h1, h2⟩ := bnd_ok h
          obtain ⟨rfl, rfl, rfl⟩ := inl_ok h2
          show wE n [] + s.parts ≤ _
          rw [wE_nil]; omega
        · split at h
          · obtain ⟨l, s1, r1, h1, h2⟩ := bnd_ok h
            obtain ⟨rfl, rfl, rfl⟩ := inl_ok h2
            exact wt_brk _ _ _ _ _ _ _ h1 n
          · obtain ⟨rfl, rfl, rfl⟩ := inl_ok h
            show wE n [] + s.parts ≤ _
            rw [wE_nil]; omega
theorem wt_plain (e f d : Nat) (s s' : St) (ts r : List Tok) (x : Flds) (h : plain e f d s ts = .inl (x, s', r)) (n : Nat) : wE n x.E + s.parts ≤ s'.parts := by
  unfold plain at h
  split at h
  · exact wt_plainB _ _ _ _ _ _ _ _ _ h n
  · obtain ⟨A, s1, r1, h1, h2⟩ := bnd_ok h
    obtain ⟨t, -, e1, -⟩ := nameOf_ok h1
    subst e1
    exact wt_plainB _ _ _ _ _ _ _ _ _ h2 n
theorem wt_nestA (e f d : Nat) (s s' : St) (ts r : List Tok) (x : Flds) (h : nestA e f d s ts = .inl (x, s', r)) (n : Nat) : wE n x.E + s.parts ≤ s'.parts := by
  have hk := (nestA_keeps _ _ _ _ _ _ _ _ h).pm
  unfold nestA at h
  split at h
  · obtain ⟨A, s1, r1, h1, h2⟩ := bnd_ok h
    obtain ⟨_, s2, r2, h3, h4⟩ := bnd_ok h2
    obtain ⟨B, s3, r3, h5, h6⟩ := bnd_ok h4
    obtain ⟨rfl, rfl, rfl⟩ := inl_ok h6
    show wE n [] + s.parts ≤ _
    rw [wE_nil]; omega
  · obtain ⟨z, s2, r2, h3, h4⟩ := bnd_ok h
    obtain ⟨rfl, rfl, rfl⟩ := inl_ok h4
    have := wt_pe _ _ _ _ _ _ _ _ _ h3 n
    simpa using this
theorem wS_one (n : Nat) (D at' : Int) (A B T : List UInt8) (N : Int) (E body els : List Tr) : wS (n + 1) [tS D at' A B T N E body els] = 1 + (wE n E + wS n body + wS n els) := by
  simp [wS, sum, sE, sB, sO, tS]
theorem wt_ps (e f g : Nat) (acc l : List Tr) (s s' : St) (ts r : List Tok) (h : ps e f g acc s ts = .inl (l, s', r)) (n : Nat) : wS n l + s.stmts + s.parts ≤ (if 2 ≤ g then wS n acc else 0) + s'.stmts + s'.parts := by
  induction f generalizing g acc l s s' ts r n with
  | zero => cases h
  | succ f ih =>
    match g with
    | 0 =>
      rw [ps_0] at h
      split at h
      · cases h
      · obtain ⟨u1, s1, r1, h1, h2⟩ := bnd_ok h
        obtain ⟨l2, s2, r2, h3, h4⟩ := bnd_ok h2
        obtain ⟨u3, s3, r3, h5, h6⟩ := bnd_ok h4
        obtain ⟨rfl, rfl, rfl⟩ := inl_ok h6
        have hs1 := (skp_ok h1).2.1
        have hs3 := (skp_ok h5).2.1
        subst s1 s3
        have := ih 2 [] l2 s.up s2 r1 r2 h3 n
        rw [wS_nil] at this
        simpa [St.up, St.down] using this
    | 1 =>
      rw [ps_1] at h
      split at h
      · cases h
      · split at h
        · cases h
        · split at h
          · obtain ⟨x, s1, r1, h1, h2⟩ := bnd_ok h
            obtain ⟨u3, s3, r3, h5, h6⟩ := bnd_ok h2
            obtain ⟨rfl, rfl, rfl⟩ := inl_ok h6
            have hs3 := (skp_ok h5).2.1
            subst s3
            have hst : s1.stmts = s.stmts + 1 := (se_plain _ e f (doOf (txt ts)) s.stmt ts.tail rfl).of h1
            cases n with
            | zero =>
              have hk := (plain_keeps _ _ _ _ _ _ _ _ h1).pm
              simp [wS, St.stmt] at hk ⊢
              omega
            | succ n =>
              have g1 := wt_plain _ _ _ _ _ _ _ _ h1 n
              rw [wS_one, wS_nil]
              simp [St.stmt] at g1 ⊢
              omega
          · obtain ⟨x, s1, r1, h1, h2⟩ := bnd_ok h
            obtain ⟨body, s2, r2, h3, h4⟩ := bnd_ok h2
            obtain ⟨els, s3, r3, h5, h6⟩ := bnd_ok h4
            obtain ⟨rfl, rfl, rfl⟩ := inl_ok h6
            have hst : s1.stmts = s.stmts + 1 := (se_nestA _ e f (doOf (txt ts)) s.stmt ts.tail rfl).of h1
            have hels : ∀ n, wS n els + s2.stmts + s2.parts ≤ s3.stmts + s3.parts := fun n => by
              split at h5
              · obtain ⟨u7, s7, r7, h7, h8⟩ := bnd_ok h5
                have hs7 := (skp_ok h7).2.1
                subst s7
                have := ih 0 [] els s2 s3 r7 r3 h8 n
                simpa using this
              · obtain ⟨rfl, rfl, rfl⟩ := inl_ok h5
                rw [wS_nil]
                omega
            cases n with
            | zero =>
              have hk := (nestA_keeps _ _ _ _ _ _ _ _ h1).pm
              have g2 := ih 0 [] body s1 s2 r1 r2 h3 0
              have g3 := hels 0
              simp [wS, St.stmt] at hk g2 g3 ⊢
              omega
            | succ n =>
              have g1 := wt_nestA _ _ _ _ _ _ _ _ h1 n
              have g2 := ih 0 [] body s1 s2 r1 r2 h3 n
              have g3 := hels n
              rw [wS_one]
              simp [St.stmt] at g1 g2 ⊢
              omega
    | g + 2 =>
      rw [ps_2 _ _ _ _ _ _ (by omega)] at h
      split at h
      · obtain ⟨rfl, rfl, rfl⟩ := inl_ok h
        simp
      · obtain ⟨l1, s1, r1, h1, h2⟩ := bnd_ok h
        have g1 := ih 1 [] l1 s s1 ts r1 h1 n
        have g2 := ih 2 (acc ++ l1) l s1 s' r1 r h2 n
        rw [wS_app] at g2
        simp at g1 g2 ⊢
        omega
theorem par_len (e j b : Nat) (acc l : List Tr) (s s' : St) (ts r : List Tok) (h : brkL e (parOne e) j b acc s ts = .inl (l, s', r)) : l.length ≤ acc.length + j := by
  induction j generalizing b acc s ts with
  | zero => cases h
  | succ j ih =>
    simp only [brkL] at h
    split at h
    · split at h
      · cases h
      · obtain ⟨a, s1, r1, h1, h2⟩ := bnd_ok h
        obtain ⟨x, s2, r2, h3, h4⟩ := bnd_ok h1
        obtain ⟨T, s3, r3, h5, h6⟩ := bnd_ok h4
        obtain ⟨rfl, rfl, rfl⟩ := inl_ok h6
        have := ih _ _ _ _ h2
        simp at this
        omega
    · obtain ⟨rfl, rfl, rfl⟩ := inl_ok h
      omega
theorem wt_stage (e f : Nat) (s s' : St) (ts r : List Tok) (x : Tr) (h : stage e f s ts = .inl (x, s', r)) (n : Nat) : wS n (gB x) + s.stmts + s.parts ≤ s'.stmts + s'.parts ∧ (gP x).length ≤ 1000000 := by
  unfold stage at h
  obtain ⟨u1, s1, r1, h1, h2⟩ := bnd_ok h
  obtain ⟨nm, s2, r2, h3, h4⟩ := bnd_ok h2
  obtain ⟨pl, s3, r3, h5, h6⟩ := bnd_ok h4
  obtain ⟨body, s4, r4, h7, h8⟩ := bnd_ok h6
  obtain ⟨rfl, rfl, rfl⟩ := inl_ok h8
  have hst1 : s1.stmts = s.stmts := (se_skp rfl).of h1
  have hst2 : s2.stmts = s1.stmts := (se_name rfl).of h3
  have hst3 : s3.stmts = s2.stmts := (se_brk _ e _ (fun a s r h => se_par _ e a s r h) [] s2 r2 rfl).of h5
  have k1 := (skp_keeps h1).pm
  have k2 := (name_keeps h3).pm
  have k3 := (brk_keeps e _ (fun a s t a' s' r h => parOne_keeps e a s t a' s' r h) _ _ _ _ _ _ h5).pm
  have g := wt_ps e f 0 [] body s3 s4 r3 r4 h7 n
  simp at g
  refine ⟨?_, ?_⟩
  · show wS n body + _ + _ ≤ _
    omega
  · show pl.length ≤ _
    unfold brk at h5
    obtain ⟨_, t1, q1, g1, g2⟩ := bnd_ok h5
    obtain ⟨a, t2, q2, g3, g4⟩ := bnd_ok g2
    obtain ⟨_, t3, q3, g5, g6⟩ := bnd_ok g4
    obtain ⟨rfl, rfl, rfl⟩ := inl_ok g6
    split at g3
    · obtain ⟨rfl, rfl, rfl⟩ := inl_ok g3
      simp
    · obtain ⟨b, t4, q4, g7, g8⟩ := bnd_ok g3
      obtain ⟨y, t5, q5, g9, g10⟩ := bnd_ok g7
      obtain ⟨T, t6, q6, g11, g12⟩ := bnd_ok g10
      obtain ⟨rfl, rfl, rfl⟩ := inl_ok g12
      have := par_len _ _ _ _ _ _ _ _ _ g8
      simp at this
      omega
theorem stages_parts (e f j : Nat) (acc l : List Tr) (s s' : St) (ts r : List Tok) (h : stages e f j acc s ts = .inl (l, s', r)) : s'.parts + r.length ≤ s.parts + ts.length := by
  induction j generalizing acc s ts with
  | zero => cases h
  | succ j ih =>
    by_cases hts : ts = []
    · subst hts
      simp only [stages, List.isEmpty_nil, if_true] at h
      obtain ⟨rfl, rfl, rfl⟩ := inl_ok h
      exact Nat.le_refl _
    · rw [stages_ne _ _ _ _ _ _ hts] at h
      split at h
      · cases h
      · obtain ⟨x, s1, r1, h1, h2⟩ := bnd_ok h
        exact Nat.le_trans (ih _ _ _ h2) (stage_keeps _ _ _ _ _ _ _ h1).1.parts
theorem wt_stages (e f j : Nat) (acc l : List Tr) (s s' : St) (ts r : List Tok) (h : stages e f j acc s ts = .inl (l, s', r)) (n : Nat) (ha : ∀ d ∈ acc, (gP d).length ≤ 1000000) : wG n l + s.stmts + s.parts ≤ wG n acc + s'.stmts + s'.parts ∧ ∀ d ∈ l, (gP d).length ≤ 1000000 := by
  induction j generalizing acc s ts with
  | zero => cases h
  | succ j ih =>
    by_cases hts : ts = []
    · subst hts
      simp only [stages, List.isEmpty_nil, if_true] at h
      obtain ⟨rfl, rfl, rfl⟩ := inl_ok h
      exact ⟨Nat.le_refl _, ha⟩
    · rw [stages_ne _ _ _ _ _ _ hts] at h
      split at h
      · cases h
      · obtain ⟨x, s1, r1, h1, h2⟩ := bnd_ok h
        obtain ⟨g1, g2⟩ := wt_stage _ _ _ _ _ _ _ h1 n
        obtain ⟨g3, g4⟩ := ih (acc ++ [x]) s1 r1 h2 (fun d hd => by
          rcases List.mem_append.1 hd with h | h
          · exact ha d h
          · rw [List.mem_singleton.1 h]; exact g2)
        have : wG n (acc ++ [x]) = wG n acc + wS n (gB x) := by
          unfold wG
          rw [sum_app]
          simp [sum]
        exact ⟨by omega, g4⟩
end Go.Proofs.YtdnlnpdaplonfabDoor.Sx
namespace Go.Proofs.YtdnlnpdaplonfabDoor
open Go.Proofs.YtdnlnpdaplonfabDoor.Sx Go.Proofs.YtdnlnpdaplonfabDoor.Tk
/-- What is read is not too great. -/
theorem parsed_sm {l : List UInt8} (hl : l.length ≤ 12000) {P : List Tr} {s : St} {r : List Tok} (h : parsed l = .inl (P, s, r)) (n : Nat) : Sm n P := by
  obtain ⟨c1, g1⟩ := parsed_ok h
  have hle := le_prog _ _ _ _ _ _ _ g1
  have hn := scan_count l
  have hts : (scan l).1 ≠ [] := by
    obtain ⟨pre, t, hp, -⟩ := prog_end _ _ _ _ _ _ _ g1
    rw [hp]; simp
  rw [prog_stages _ _ _ _ hts] at g1
  obtain ⟨a, b⟩ := wt_stages _ _ _ _ _ _ _ _ _ g1 n (by simp)
  have hp := stages_parts _ _ _ _ _ _ _ _ _ g1
  have h0 : wG n [] = 0 := rfl
  rw [h0] at a
  simp [s0] at a hp
  exact ⟨by omega, fun i d hd => b d (List.mem_of_getElem? hd), by omega⟩
end Go.Proofs.YtdnlnpdaplonfabDoor

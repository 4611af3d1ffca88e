import Derived.Test.YtdnlnpdaplonfabDoorPlB
import Derived.Test.YtdnlnpdaplonfabDoorPlA
/- What is read of tokens is read of them with more behind. -/
namespace Go.Proofs.YtdnlnpdaplonfabDoor.Sx
open Go.Proofs.YtdnlnpdaplonfabDoor.Tk

theorem txt_app {ts us : List Tok} (h : ts ≠ []) : txt (ts ++ us) = txt ts := by
  cases ts with
  | nil => exact absurd rfl h
  | cons a b => rfl
theorem tail_app {ts us : List Tok} (h : ts ≠ []) : (ts ++ us).tail = ts.tail ++ us := by
  cases ts with
  | nil => exact absurd rfl h
  | cons a b => rfl
theorem kind_app {ts us : List Tok} (k : Int) (h : ts ≠ []) : hasKind k (ts ++ us) = hasKind k ts := by
  cases ts with
  | nil => exact absurd rfl h
  | cons a b => rfl
theorem place_app {ts us : List Tok} (e e' : Nat) (h : ts ≠ []) : place e' (ts ++ us) = place e ts := by
  cases ts with
  | nil => exact absurd rfl h
  | cons a b => rfl
theorem ne_len {r ts : List Tok} (h : r ≠ []) (hl : r.length ≤ ts.length) : ts ≠ [] := by
  intro e
  rw [e] at hl
  simp at hl
  exact h hl
theorem ne_txt {ts : List Tok} {b : UInt8} {l : List UInt8} (h : txt ts = b :: l) : ts ≠ [] := by
  intro e
  rw [e] at h
  cases h
theorem skp_ext {e : Nat} {b : UInt8} {x : List UInt8} {s s' : St} {ts r : List Tok} {u : Unit} (h : skp e (b :: x) s ts = .inl (u, s', r)) (e' : Nat) (us : List Tok) : skp e' (b :: x) s (ts ++ us) = .inl (u, s', r ++ us) := by
  obtain ⟨ht, rfl, rfl⟩ := skp_ok h
  have hne := ne_txt ht
  unfold skp
  rw [txt_app hne, if_pos ht, tail_app hne]
theorem tokOf_ext {e : Nat} {k : Int} {s s' : St} {ts r : List Tok} {t : Tok} (h : tokOf e k s ts = .inl (t, s', r)) (e' : Nat) (us : List Tok) : tokOf e' k s (ts ++ us) = .inl (t, s', r ++ us) := by
  obtain ⟨rfl, rfl, hk⟩ := tokOf_ok h
  simp [tokOf, hk]
theorem name_ext {e : Nat} {s s' : St} {ts r : List Tok} {x : List UInt8} (h : nameOf e s ts = .inl (x, s', r)) (e' : Nat) (us : List Tok) : nameOf e' s (ts ++ us) = .inl (x, s', r ++ us) := by
  obtain ⟨t, s1, r1, h1, h2⟩ := bnd_ok h
  obtain ⟨rfl, rfl, rfl⟩ := inl_ok h2
  unfold nameOf
  rw [tokOf_ext h1 e' us]
  rfl
theorem num_ext {e : Nat} {s s' : St} {ts r : List Tok} {x : Int} (h : numOf e s ts = .inl (x, s', r)) (e' : Nat) (us : List Tok) : numOf e' s (ts ++ us) = .inl (x, s', r ++ us) := by
  obtain ⟨t, s1, r1, h1, h2⟩ := bnd_ok h
  obtain ⟨rfl, rfl, rfl⟩ := inl_ok h2
  unfold numOf
  rw [tokOf_ext h1 e' us]
  rfl
theorem ent_ext {e : Nat} {s s' : St} {ts r : List Tok} {u : Unit} (h : ent e s ts = .inl (u, s', r)) (hne : ts ≠ []) (e' : Nat) (us : List Tok) : ent e' s (ts ++ us) = .inl (u, s', r ++ us) := by
  obtain ⟨ho, rfl, rfl⟩ := ent_ok h
  unfold ent
  rw [if_neg ho, tail_app hne]
theorem join_ext {op : Int} {x z : Tr} {m m' : Rs Tr} {s' : St} {r us : List Tok} (h : join op x m = .inl (z, s', r)) (hm : ∀ y s1, m = .inl (y, s1, r) → m' = .inl (y, s1, r ++ us)) : join op x m' = .inl (z, s', r ++ us) := by
  obtain ⟨y, s1, h1, rfl, rfl⟩ := join_ok h
  rw [hm y s1 h1]
  rfl

theorem pe_ext (e e' : Nat) (us : List Tok) (f g : Nat) (x z : Tr) (s s' : St) (ts r : List Tok) (h : pe e f g x s ts = .inl (z, s', r)) (hr : r ≠ []) : pe e' f g x s (ts ++ us) = .inl (z, s', r ++ us) := by
  induction f generalizing g x z s s' ts r with
  | zero => cases h
  | succ f ih =>
    have hts := ne_len hr (pe_keeps _ _ _ _ _ _ _ _ _ h).len
    rcases pe_kinds g with rfl | rfl | rfl | rfl | rfl | hg
    · rw [pe_0] at h ⊢
      obtain ⟨z1, s3, r3, h1, h2⟩ := bnd_ok h
      obtain ⟨y, s1, r1, h3, h4⟩ := bnd_ok h1
      have hr3 : r3 = r := by
        split at h2
        · cases h2
        · exact (inl_ok h2).2.2
      subst hr3
      have hl : r3.length ≤ r1.length := by
        split at h4
        · obtain ⟨y2, s2, h5, _, _⟩ := join_ok h4
          have := (pe_keeps _ _ _ _ _ _ _ _ _ h5).len
          simp at this
          omega
        · split at h4
          · obtain ⟨y2, s2, h5, _, _⟩ := join_ok h4
            have := (pe_keeps _ _ _ _ _ _ _ _ _ h5).len
            simp at this
            omega
          · rw [(inl_ok h4).2.2]
            exact Nat.le_refl _
      have hr1 := ne_len hr hl
      rw [ih _ _ _ _ _ _ _ h3 hr1]
      show bnd (if txt (r1 ++ us) = [60] then join 7 y (pe e' f 1 d0 s1 (r1 ++ us).tail) else if txt (r1 ++ us) = [61, 61] then join 8 y (pe e' f 1 d0 s1 (r1 ++ us).tail) else .inl (y, s1, r1 ++ us)) _ = _
      rw [txt_app hr1, tail_app hr1]
      have h5 : (if txt r1 = [60] then join 7 y (pe e' f 1 d0 s1 (r1.tail ++ us)) else if txt r1 = [61, 61] then join 8 y (pe e' f 1 d0 s1 (r1.tail ++ us)) else .inl (y, s1, r1 ++ us)) = (.inl (z1, s3, r3 ++ us) : Rs Tr) := by
        split at h4
        · rename_i ht
          rw [if_pos ht]
          exact join_ext h4 (fun y2 s2 h6 => ih _ _ _ _ _ _ _ h6 hr)
        · rename_i ht
          rw [if_neg ht]
          split at h4
          · rename_i ht2
            rw [if_pos ht2]
            exact join_ext h4 (fun y2 s2 h6 => ih _ _ _ _ _ _ _ h6 hr)
          · rename_i ht2
            rw [if_neg ht2]
            obtain ⟨rfl, rfl, rfl⟩ := inl_ok h4
            rfl
      rw [h5]
      show (if 20 < s3.parts - s.parts then _ else _) = _
      split at h2
      · cases h2
      · rename_i h20
        rw [if_neg h20]
        obtain ⟨rfl, rfl, _⟩ := inl_ok h2
        rfl
    · rw [pe_1] at h ⊢
      obtain ⟨y, s1, r1, h3, h4⟩ := bnd_ok h
      have hr1 := ne_len hr (pe_keeps _ _ _ _ _ _ _ _ _ h4).len
      rw [ih _ _ _ _ _ _ _ h3 hr1]
      exact ih _ _ _ _ _ _ _ h4 hr
    · rw [pe_2] at h ⊢
      obtain ⟨y, s1, r1, h3, h4⟩ := bnd_ok h
      have hr1 := ne_len hr (pe_keeps _ _ _ _ _ _ _ _ _ h4).len
      rw [ih _ _ _ _ _ _ _ h3 hr1]
      exact ih _ _ _ _ _ _ _ h4 hr
    · rw [pe_4] at h ⊢
      rw [txt_app hts, tail_app hts]
      split at h
      · rename_i ht
        rw [if_pos ht]
        obtain ⟨y, s1, r1, h3, h4⟩ := bnd_ok h
        have hr1 := ne_len hr (pe_keeps _ _ _ _ _ _ _ _ _ h4).len
        rw [join_ext (us := us) h3 (fun y2 s2 h6 => ih _ _ _ _ _ _ _ h6 hr1)]
        exact ih _ _ _ _ _ _ _ h4 hr
      · rename_i ht
        rw [if_neg ht]
        split at h
        · rename_i ht2
          rw [if_pos ht2]
          obtain ⟨y, s1, r1, h3, h4⟩ := bnd_ok h
          have hr1 := ne_len hr (pe_keeps _ _ _ _ _ _ _ _ _ h4).len
          rw [join_ext (us := us) h3 (fun y2 s2 h6 => ih _ _ _ _ _ _ _ h6 hr1)]
          exact ih _ _ _ _ _ _ _ h4 hr
        · rename_i ht2
          rw [if_neg ht2]
          obtain ⟨rfl, rfl, rfl⟩ := inl_ok h
          rfl
    · rw [pe_5] at h ⊢
      rw [txt_app hts, tail_app hts]
      split at h
      · rename_i ht
        rw [if_pos ht]
        obtain ⟨y, s1, r1, h3, h4⟩ := bnd_ok h
        have hr1 := ne_len hr (pe_keeps _ _ _ _ _ _ _ _ _ h4).len
        rw [join_ext (us := us) h3 (fun y2 s2 h6 => ih _ _ _ _ _ _ _ h6 hr1)]
        exact ih _ _ _ _ _ _ _ h4 hr
      · rename_i ht
        rw [if_neg ht]
        obtain ⟨rfl, rfl, rfl⟩ := inl_ok h
        rfl
    · rw [pe_u _ _ _ _ _ _ hg] at h ⊢
      rw [txt_app hts, kind_app 3 hts]
      split at h
      · rename_i ht
        rw [if_pos ht]
        obtain ⟨_, s1, r1, h1, h2⟩ := bnd_ok h
        obtain ⟨y, s2, r2, h3, h4⟩ := bnd_ok h2
        obtain ⟨_, s3, r3, h5, h6⟩ := bnd_ok h4
        obtain ⟨rfl, rfl, rfl⟩ := inl_ok h6
        rw [ent_ext h1 hts e' us]
        show bnd (pe e' f 0 d0 s1 (r1 ++ us)) _ = _
        rw [ih _ _ _ _ _ _ _ h3 (ne_txt (skp_ok h5).1)]
        show bnd (skp e' [41] s2 (r2 ++ us)) _ = _
        rw [skp_ext h5 e' us]
        rfl
      · rename_i ht
        rw [if_neg ht]
        split at h
        · rename_i ht2
          rw [if_pos ht2]
          obtain ⟨_, s1, r1, h1, h2⟩ := bnd_ok h
          obtain ⟨y, s2, r2, h3, h4⟩ := bnd_ok h2
          obtain ⟨rfl, rfl, rfl⟩ := inl_ok h4
          rw [ent_ext h1 hts e' us]
          show bnd (pe e' f 3 d0 s1 (r1 ++ us)) _ = _
          rw [ih _ _ _ _ _ _ _ h3 hr]
          rfl
        · rename_i ht2
          rw [if_neg ht2]
          split at h
          · rename_i hk
            rw [if_pos hk]
            obtain ⟨y, s1, r1, h3, h4⟩ := bnd_ok h
            obtain ⟨rfl, rfl, rfl⟩ := inl_ok h4
            rw [num_ext h3 e' us]
            rfl
          · rename_i hk
            rw [if_neg hk]
            obtain ⟨y, s1, r1, h3, h4⟩ := bnd_ok h
            obtain ⟨rfl, rfl, rfl⟩ := inl_ok h4
            rw [name_ext h3 e' us]
            rfl
end Go.Proofs.YtdnlnpdaplonfabDoor.Sx
/- What is read of tokens is read of them with more behind: statements, stages. -/
namespace Go.Proofs.YtdnlnpdaplonfabDoor.Sx
open Go.Proofs.YtdnlnpdaplonfabDoor.Tk

theorem ty_ext (e e' : Nat) (us : List Tok) (acc : List UInt8) (s s' : St) (ts r : List Tok) (x : List UInt8) (h : ty e acc s ts = .inl (x, s', r)) : ty e' acc s (ts ++ us) = .inl (x, s', r ++ us) := by
  induction ts generalizing acc with
  | nil => cases h
  | cons t l ih =>
    simp only [List.cons_append, ty] at h ⊢
    split at h
    · rename_i ht
      rw [if_pos ht]
      split at h
      · cases h
      · rename_i h3
        rw [if_neg h3]
        exact ih _ h
    · rename_i ht
      rw [if_neg ht]
      obtain ⟨u, s1, r1, h1, h2⟩ := bnd_ok h
      obtain ⟨rfl, rfl, rfl⟩ := inl_ok h2
      have := skp_ext h1 e' us
      rw [List.cons_append] at this
      unfold wInt at *
      rw [this]
      rfl
theorem brkL_ext (e e' : Nat) (us : List Tok) {σ : Type} (one one' : σ → St → List Tok → Rs σ) (hone : ∀ acc s ts acc' s' r, one acc s ts = .inl (acc', s', r) → r ≠ [] → one' acc s (ts ++ us) = .inl (acc', s', r ++ us)) (_ : ∀ acc s ts acc' s' r, one acc s ts = .inl (acc', s', r) → r.length ≤ ts.length)
    (k m : Nat) (acc acc' : σ) (s s' : St) (ts r : List Tok) (h : brkL e one k m acc s ts = .inl (acc', s', r)) (hr : r ≠ []) : brkL e' one' k m acc s (ts ++ us) = .inl (acc', s', r ++ us) := by
  induction k generalizing m acc s ts with
  | zero => cases h
  | succ k ih =>
    have hts : ts ≠ [] := by
      simp only [brkL] at h
      split at h
      · rename_i ht
        exact ne_txt ht
      · obtain ⟨_, _, rfl⟩ := inl_ok h
        exact hr
    simp only [brkL] at h ⊢
    rw [txt_app hts, tail_app hts]
    split at h
    · rename_i ht
      rw [if_pos ht]
      split at h
      · cases h
      · rename_i h6
        rw [if_neg h6]
        obtain ⟨a, s1, r1, h1, h2⟩ := bnd_ok h
        have hr1 : r1 ≠ [] := by
          intro e0
          subst e0
          cases k with
          | zero => cases h2
          | succ k =>
            simp only [brkL] at h2
            rw [if_neg (by simp [txt])] at h2
            exact hr (inl_ok h2).2.2.symm
        rw [hone _ _ _ _ _ _ h1 hr1]
        exact ih _ _ _ _ h2
    · rename_i ht
      rw [if_neg ht]
      obtain ⟨rfl, rfl, rfl⟩ := inl_ok h
      rfl
theorem brk_ext (e e' : Nat) (us : List Tok) {σ : Type} (one one' : σ → St → List Tok → Rs σ) (hone : ∀ acc s ts acc' s' r, one acc s ts = .inl (acc', s', r) → r ≠ [] → one' acc s (ts ++ us) = .inl (acc', s', r ++ us)) (hk : ∀ acc s ts acc' s' r, one acc s ts = .inl (acc', s', r) → r.length ≤ ts.length)
    (acc acc' : σ) (s s' : St) (ts r : List Tok) (h : brk e one acc s ts = .inl (acc', s', r)) : brk e' one' acc s (ts ++ us) = .inl (acc', s', r ++ us) := by
  obtain ⟨u, s1, r1, h1, h2⟩ := bnd_ok h
  obtain ⟨a, s2, r2, h3, h4⟩ := bnd_ok h2
  obtain ⟨u3, s3, r3, h5, h6⟩ := bnd_ok h4
  obtain ⟨rfl, rfl, rfl⟩ := inl_ok h6
  have hr2 : r2 ≠ [] := ne_txt (skp_ok h5).1
  unfold brk
  rw [skp_ext h1 e' us]
  show bnd (if txt (r1 ++ us) = [41] then .inl (acc, s1, r1 ++ us) else bnd (one' acc s1 (r1 ++ us)) fun acc s ts => brkL e' one' 7 1 acc s ts) _ = _
  have hm : (if txt (r1 ++ us) = [41] then .inl (acc, s1, r1 ++ us) else bnd (one' acc s1 (r1 ++ us)) fun acc s ts => brkL e' one' 7 1 acc s ts) = (.inl (a, s2, r2 ++ us) : Rs σ) := by
    split at h3
    · rename_i ht
      rw [txt_app (ne_txt ht), if_pos ht]
      obtain ⟨rfl, rfl, rfl⟩ := inl_ok h3
      rfl
    · rename_i ht
      obtain ⟨a1, s5, r5, h7, h8⟩ := bnd_ok h3
      have hr5 : r5 ≠ [] := by
        intro e0
        subst e0
        simp only [brkL] at h8
        rw [if_neg (by simp [txt])] at h8
        exact hr2 (inl_ok h8).2.2.symm
      have hr1 := ne_len hr5 (hk _ _ _ _ _ _ h7)
      rw [txt_app hr1, if_neg ht, hone _ _ _ _ _ _ h7 hr5]
      exact brkL_ext e e' us one one' hone hk _ _ _ _ _ _ _ _ h8 hr2
  rw [hm]
  show bnd (skp e' [41] s2 (r2 ++ us)) _ = _
  rw [skp_ext h5 e' us]
  rfl
theorem parOne_ext (e e' : Nat) (us : List Tok) (acc : List Tr) (s : St) (ts : List Tok) (acc' : List Tr) (s' : St) (r : List Tok) (h : parOne e acc s ts = .inl (acc', s', r)) : parOne e' acc s (ts ++ us) = .inl (acc', s', r ++ us) := by
  obtain ⟨a, s1, r1, h1, h2⟩ := bnd_ok h
  obtain ⟨b, s2, r2, h3, h4⟩ := bnd_ok h2
  obtain ⟨rfl, rfl, rfl⟩ := inl_ok h4
  unfold parOne
  rw [name_ext h1 e' us]
  show bnd (ty e' [] s1 (r1 ++ us)) _ = _
  rw [ty_ext e e' us _ _ _ _ _ _ h3]
  rfl
theorem argOne_ext (e e' f : Nat) (us : List Tok) (acc : List Tr) (s : St) (ts : List Tok) (acc' : List Tr) (s' : St) (r : List Tok) (h : argOne e f acc s ts = .inl (acc', s', r)) (hr : r ≠ []) : argOne e' f acc s (ts ++ us) = .inl (acc', s', r ++ us) := by
  obtain ⟨a, s1, r1, h1, h2⟩ := bnd_ok h
  obtain ⟨rfl, rfl, rfl⟩ := inl_ok h2
  unfold argOne
  rw [pe_ext e e' us _ _ _ _ _ _ _ _ h1 hr]
  rfl
theorem plainB_ext (e e' f d : Nat) (us : List Tok) (A : List UInt8) (s s' : St) (ts r : List Tok) (x : Flds) (h : plainB e f d A s ts = .inl (x, s', r)) (hr : r ≠ []) : plainB e' f d A s (ts ++ us) = .inl (x, s', r ++ us) := by
  unfold plainB at h ⊢
  split at h
  · rename_i hd
    rw [if_pos hd]
    obtain ⟨a, s1, r1, h1, h2⟩ := bnd_ok h
    obtain ⟨b, s2, r2, h3, h4⟩ := bnd_ok h2
    obtain ⟨rfl, rfl, rfl⟩ := inl_ok h4
    rw [skp_ext h1 e' us]
    show bnd (pe e' f 0 d0 s1 (r1 ++ us)) _ = _
    rw [pe_ext e e' us _ _ _ _ _ _ _ _ h3 hr]
    rfl
  · rename_i hd
    rw [if_neg hd]
    split at h
    · rename_i hd2
      rw [if_pos hd2]
      obtain ⟨a, s1, r1, h1, h2⟩ := bnd_ok h
      obtain ⟨rfl, rfl, rfl⟩ := inl_ok h2
      rw [pe_ext e e' us _ _ _ _ _ _ _ _ h1 hr]
      rfl
    · rename_i hd2
      rw [if_neg hd2]
      split at h
      · rename_i hd3
        rw [if_pos hd3]
        obtain ⟨a, s1, r1, h1, h2⟩ := bnd_ok h
        obtain ⟨b, s2, r2, h3, h4⟩ := bnd_ok h2
        obtain ⟨c, s3, r3, h5, h6⟩ := bnd_ok h4
        obtain ⟨rfl, rfl, rfl⟩ := inl_ok h6
        rw [name_ext h1 e' us]
        show bnd (ty e' [] s1 (r1 ++ us)) _ = _
        rw [ty_ext e e' us _ _ _ _ _ _ h3]
        show bnd (numOf e' s2 (r2 ++ us)) _ = _
        rw [num_ext h5 e' us]
        rfl
      · rename_i hd3
        rw [if_neg hd3]
        split at h
        · rename_i hd4
          rw [if_pos hd4]
          obtain ⟨a, s1, r1, h1, h2⟩ := bnd_ok h
          obtain ⟨rfl, rfl, rfl⟩ := inl_ok h2
          rw [name_ext h1 e' us]
          rfl
        · rename_i hd4
          rw [if_neg hd4]
          split at h
          · rename_i hd5
            rw [if_pos hd5]
            obtain ⟨a, s1, r1, h1, h2⟩ := bnd_ok h
            obtain ⟨rfl, rfl, rfl⟩ := inl_ok h2
            rw [brk_ext e e' us _ (argOne e' f) (fun acc s ts acc' s' r h hr => argOne_ext e e' f us acc s ts acc' s' r h hr) (fun acc s r acc' s' r' h => (argOne_keeps e f acc s r acc' s' r' h).len) _ _ _ _ _ _ h1]
            rfl
          · rename_i hd5
            rw [if_neg hd5]
            obtain ⟨rfl, rfl, rfl⟩ := inl_ok h
            rfl
theorem plain_ext (e e' f d : Nat) (us : List Tok) (s s' : St) (ts r : List Tok) (x : Flds) (h : plain e f d s ts = .inl (x, s', r)) (hr : r ≠ []) : plain e' f d s (ts ++ us) = .inl (x, s', r ++ us) := by
  unfold plain at h ⊢
  split at h
  · rename_i hd
    rw [if_pos hd]
    exact plainB_ext _ _ _ _ _ _ _ _ _ _ _ h hr
  · rename_i hd
    rw [if_neg hd]
    obtain ⟨a, s1, r1, h1, h2⟩ := bnd_ok h
    rw [name_ext h1 e' us]
    exact plainB_ext _ _ _ _ _ _ _ _ _ _ _ h2 hr
theorem nestA_ext (e e' f d : Nat) (us : List Tok) (s s' : St) (ts r : List Tok) (x : Flds) (h : nestA e f d s ts = .inl (x, s', r)) (hr : r ≠ []) : nestA e' f d s (ts ++ us) = .inl (x, s', r ++ us) := by
  unfold nestA at h ⊢
  split at h
  · rename_i hd
    rw [if_pos hd]
    obtain ⟨a, s1, r1, h1, h2⟩ := bnd_ok h
    obtain ⟨b, s2, r2, h3, h4⟩ := bnd_ok h2
    obtain ⟨c, s3, r3, h5, h6⟩ := bnd_ok h4
    obtain ⟨rfl, rfl, rfl⟩ := inl_ok h6
    rw [name_ext h1 e' us]
    show bnd (skp e' wFrom s1 (r1 ++ us)) _ = _
    unfold wFrom at *
    rw [skp_ext h3 e' us]
    show bnd (nameOf e' s2 (r2 ++ us)) _ = _
    rw [name_ext h5 e' us]
    rfl
  · rename_i hd
    rw [if_neg hd]
    obtain ⟨a, s1, r1, h1, h2⟩ := bnd_ok h
    obtain ⟨rfl, rfl, rfl⟩ := inl_ok h2
    rw [pe_ext e e' us _ _ _ _ _ _ _ _ h1 hr]
    rfl
/-- Blocks end with their own sign; a statement may look further. -/
theorem ps_ext (e e' : Nat) (us : List Tok) (f g : Nat) (acc l : List Tr) (s s' : St) (ts r : List Tok) (h : ps e f g acc s ts = .inl (l, s', r)) (hr : g = 1 → r ≠ []) : ps e' f g acc s (ts ++ us) = .inl (l, s', r ++ us) := by
  induction f generalizing g acc l s s' ts r with
  | zero => cases h
  | succ f ih =>
    rcases (by omega : g = 0 ∨ g = 1 ∨ 2 ≤ g) with rfl | rfl | hg
    · rw [ps_0] at h ⊢
      split at h
      · cases h
      · rename_i h8
        obtain ⟨u, s1, r1, h1, h2⟩ := bnd_ok h
        obtain ⟨l2, s2, r2, h3, h4⟩ := bnd_ok h2
        obtain ⟨u3, s3, r3, h5, h6⟩ := bnd_ok h4
        obtain ⟨rfl, rfl, rfl⟩ := inl_ok h6
        rw [txt_app (ne_txt (skp_ok h1).1), if_neg h8, skp_ext h1 e' us]
        show bnd (ps e' f 2 [] s1.up (r1 ++ us)) _ = _
        rw [ih _ _ _ _ _ _ _ h3 (by omega)]
        show bnd (skp e' [125] s2 (r2 ++ us)) _ = _
        rw [skp_ext h5 e' us]
        rfl
    · have hrr := hr rfl
      have hts : ts ≠ [] := ne_len hrr (ps_keeps _ _ _ _ _ _ _ _ _ h).kp.len
      rw [ps_1] at h ⊢
      rw [txt_app hts, tail_app hts, place_app e e' hts]
      split at h
      · cases h
      · rename_i h0
        rw [if_neg h0]
        split at h
        · cases h
        · rename_i h300
          rw [if_neg h300]
          split at h
          · rename_i h11
            rw [if_pos h11]
            obtain ⟨x, s1, r1, h1, h2⟩ := bnd_ok h
            obtain ⟨u3, s3, r3, h5, h6⟩ := bnd_ok h2
            obtain ⟨rfl, rfl, rfl⟩ := inl_ok h6
            rw [plain_ext e e' _ _ us _ _ _ _ _ h1 (ne_txt (skp_ok h5).1)]
            show bnd (skp e' [59] s1 (r1 ++ us)) _ = _
            rw [skp_ext h5 e' us]
            rfl
          · rename_i h11
            rw [if_neg h11]
            obtain ⟨x, s1, r1, h1, h2⟩ := bnd_ok h
            obtain ⟨body, s2, r2, h3, h4⟩ := bnd_ok h2
            obtain ⟨els, s3, r3, h5, h6⟩ := bnd_ok h4
            obtain ⟨rfl, rfl, rfl⟩ := inl_ok h6
            have hl3 : r3.length ≤ r2.length := by
              split at h5
              · obtain ⟨u7, s7, r7, h7, h8⟩ := bnd_ok h5
                exact ((skp_keeps h7).trans (ps_keeps _ _ _ _ _ _ _ _ _ h8).kp).len
              · rw [(inl_ok h5).2.2]
                exact Nat.le_refl _
            have hr2 := ne_len hrr hl3
            have hr1 := ne_len hr2 (ps_keeps _ _ _ _ _ _ _ _ _ h3).kp.len
            rw [nestA_ext e e' _ _ us _ _ _ _ _ h1 hr1]
            show bnd (ps e' f 0 [] s1 (r1 ++ us)) _ = _
            rw [ih _ _ _ _ _ _ _ h3 (by omega)]
            show bnd (if (doOf (txt ts) = 11 ∨ doOf (txt ts) = 14) ∧ txt (r2 ++ us) = wElse then bnd (skp e' wElse s2 (r2 ++ us)) (fun _ s r => ps e' f 0 [] s r) else .inl ([], s2, r2 ++ us)) _ = _
            rw [txt_app hr2]
            have hm : (if (doOf (txt ts) = 11 ∨ doOf (txt ts) = 14) ∧ txt r2 = wElse then bnd (skp e' wElse s2 (r2 ++ us)) (fun _ s r => ps e' f 0 [] s r) else .inl ([], s2, r2 ++ us)) = (.inl (els, s3, r3 ++ us) : Rs (List Tr)) := by
              split at h5
              · rename_i hc
                rw [if_pos hc]
                obtain ⟨u7, s7, r7, h7, h8⟩ := bnd_ok h5
                unfold wElse at *
                rw [skp_ext h7 e' us]
                exact ih _ _ _ _ _ _ _ h8 (by omega)
              · rename_i hc
                rw [if_neg hc]
                obtain ⟨rfl, rfl, rfl⟩ := inl_ok h5
                rfl
            rw [hm]
            rfl
    · rw [ps_2 _ _ _ _ _ _ hg] at h ⊢
      split at h
      · rename_i ht
        rw [txt_app (ne_txt ht), if_pos ht]
        obtain ⟨rfl, rfl, rfl⟩ := inl_ok h
        rfl
      · rename_i ht
        obtain ⟨l1, s1, r1, h1, h2⟩ := bnd_ok h
        have hr1 : r1 ≠ [] := by
          intro e0
          subst e0
          cases f with
          | zero => cases h2
          | succ f =>
            rw [ps_2 _ _ _ _ _ _ (Nat.le_refl _), if_neg (by simp [txt])] at h2
            obtain ⟨l3, s3, r3, h3, _⟩ := bnd_ok h2
            have := stmt_less _ _ _ _ _ _ _ _ h3
            simp at this
        have hts := ne_len hr1 (ps_keeps _ _ _ _ _ _ _ _ _ h1).kp.len
        rw [txt_app hts, if_neg ht, ih _ _ _ _ _ _ _ h1 (fun _ => hr1)]
        exact ih _ _ _ _ _ _ _ h2 (by omega)
theorem stage_ext (e e' f : Nat) (us : List Tok) (s s' : St) (ts r : List Tok) (x : Tr) (h : stage e f s ts = .inl (x, s', r)) : stage e' f s (ts ++ us) = .inl (x, s', r ++ us) := by
  obtain ⟨u, s1, r1, h1, h2⟩ := bnd_ok h
  obtain ⟨nm, s2, r2, h3, h4⟩ := bnd_ok h2
  obtain ⟨l, s3, r3, h5, h6⟩ := bnd_ok h4
  obtain ⟨b, s4, r4, h7, h8⟩ := bnd_ok h6
  obtain ⟨rfl, rfl, rfl⟩ := inl_ok h8
  have hts : ts ≠ [] := ne_txt (skp_ok h1).1
  unfold stage
  rw [place_app e e' hts]
  unfold wStage at *
  rw [skp_ext h1 e' us]
  show bnd (nameOf e' s1 (r1 ++ us)) _ = _
  rw [name_ext h3 e' us]
  show bnd (brk e' (parOne e') [] s2 (r2 ++ us)) _ = _
  rw [brk_ext e e' us _ (parOne e') (fun acc s ts acc' s' r h _ => parOne_ext e e' us acc s ts acc' s' r h) (fun acc s r acc' s' r' h => (parOne_keeps e acc s r acc' s' r' h).len) _ _ _ _ _ _ h5]
  show bnd (ps e' f 0 [] s3 (r3 ++ us)) _ = _
  rw [ps_ext e e' us _ _ _ _ _ _ _ _ h7 (by omega)]
  rfl
end Go.Proofs.YtdnlnpdaplonfabDoor.Sx
/- What is left stands at the end. -/
namespace Go.Proofs.YtdnlnpdaplonfabDoor.Sx
open Go.Proofs.YtdnlnpdaplonfabDoor.Tk

theorem skp_suf {e : Nat} {x : List UInt8} {s s' : St} {ts r : List Tok} {u : Unit} (h : skp e x s ts = .inl (u, s', r)) : r <:+ ts := by
  obtain ⟨_, _, rfl⟩ := skp_ok h
  exact List.tail_suffix _
theorem name_suf {e : Nat} {s s' : St} {ts r : List Tok} {x : List UInt8} (h : nameOf e s ts = .inl (x, s', r)) : r <:+ ts := by
  obtain ⟨t, rfl, _, _, _⟩ := nameOf_ok h
  exact List.suffix_cons _ _
theorem num_suf {e : Nat} {s s' : St} {ts r : List Tok} {x : Int} (h : numOf e s ts = .inl (x, s', r)) : r <:+ ts := by
  obtain ⟨t, rfl, _, _, _⟩ := numOf_ok h
  exact List.suffix_cons _ _
theorem pe_suf (e f g : Nat) (x z : Tr) (s s' : St) (ts r : List Tok) (h : pe e f g x s ts = .inl (z, s', r)) : r <:+ ts := by
  induction f generalizing g x z s s' ts r with
  | zero => cases h
  | succ f ih =>
    rcases pe_kinds g with rfl | rfl | rfl | rfl | rfl | hg
    · rw [pe_0] at h
      obtain ⟨z1, s3, r3, h1, h2⟩ := bnd_ok h
      obtain ⟨y, s1, r1, h3, h4⟩ := bnd_ok h1
      have k1 := ih _ _ _ _ _ _ _ h3
      have k2 : r3 <:+ r1 := by
        split at h4
        · obtain ⟨y2, s2, h5, _, _⟩ := join_ok h4
          exact (ih _ _ _ _ _ _ _ h5).trans (List.tail_suffix _)
        · split at h4
          · obtain ⟨y2, s2, h5, _, _⟩ := join_ok h4
            exact (ih _ _ _ _ _ _ _ h5).trans (List.tail_suffix _)
          · rw [(inl_ok h4).2.2]
            exact List.suffix_refl _
      split at h2
      · cases h2
      · obtain ⟨_, _, rfl⟩ := inl_ok h2
        exact k2.trans k1
    · rw [pe_1] at h
      obtain ⟨y, s1, r1, h3, h4⟩ := bnd_ok h
      exact (ih _ _ _ _ _ _ _ h4).trans (ih _ _ _ _ _ _ _ h3)
    · rw [pe_2] at h
      obtain ⟨y, s1, r1, h3, h4⟩ := bnd_ok h
      exact (ih _ _ _ _ _ _ _ h4).trans (ih _ _ _ _ _ _ _ h3)
    · rw [pe_4] at h
      split at h
      · obtain ⟨y, s1, r1, h3, h4⟩ := bnd_ok h
        obtain ⟨y2, s2, h5, _, _⟩ := join_ok h3
        exact (ih _ _ _ _ _ _ _ h4).trans ((ih _ _ _ _ _ _ _ h5).trans (List.tail_suffix _))
      · split at h
        · obtain ⟨y, s1, r1, h3, h4⟩ := bnd_ok h
          obtain ⟨y2, s2, h5, _, _⟩ := join_ok h3
          exact (ih _ _ _ _ _ _ _ h4).trans ((ih _ _ _ _ _ _ _ h5).trans (List.tail_suffix _))
        · rw [(inl_ok h).2.2]
          exact List.suffix_refl _
    · rw [pe_5] at h
      split at h
      · obtain ⟨y, s1, r1, h3, h4⟩ := bnd_ok h
        obtain ⟨y2, s2, h5, _, _⟩ := join_ok h3
        exact (ih _ _ _ _ _ _ _ h4).trans ((ih _ _ _ _ _ _ _ h5).trans (List.tail_suffix _))
      · rw [(inl_ok h).2.2]
        exact List.suffix_refl _
    · rw [pe_u _ _ _ _ _ _ hg] at h
      split at h
      · obtain ⟨_, s1, r1, h1, h2⟩ := bnd_ok h
        obtain ⟨y, s2, r2, h3, h4⟩ := bnd_ok h2
        obtain ⟨_, s3, r3, h5, h6⟩ := bnd_ok h4
        obtain ⟨_, _, rfl⟩ := ent_ok h1
        obtain ⟨_, _, rfl⟩ := inl_ok h6
        exact (skp_suf h5).trans ((ih _ _ _ _ _ _ _ h3).trans (List.tail_suffix _))
      · split at h
        · obtain ⟨_, s1, r1, h1, h2⟩ := bnd_ok h
          obtain ⟨y, s2, r2, h3, h4⟩ := bnd_ok h2
          obtain ⟨_, _, rfl⟩ := ent_ok h1
          obtain ⟨_, _, rfl⟩ := inl_ok h4
          exact (ih _ _ _ _ _ _ _ h3).trans (List.tail_suffix _)
        · split at h
          · obtain ⟨y, s1, r1, h3, h4⟩ := bnd_ok h
            obtain ⟨_, _, rfl⟩ := inl_ok h4
            exact num_suf h3
          · obtain ⟨y, s1, r1, h3, h4⟩ := bnd_ok h
            obtain ⟨_, _, rfl⟩ := inl_ok h4
            exact name_suf h3
theorem ty_suf (e : Nat) (acc : List UInt8) (s s' : St) (ts r : List Tok) (x : List UInt8) (h : ty e acc s ts = .inl (x, s', r)) : r <:+ ts := by
  induction ts generalizing acc with
  | nil => cases h
  | cons t l ih =>
    simp only [ty] at h
    split at h
    · split at h
      · cases h
      · exact (ih _ h).trans (List.suffix_cons _ _)
    · obtain ⟨u, s1, r1, h1, h2⟩ := bnd_ok h
      obtain ⟨_, _, rfl⟩ := inl_ok h2
      exact skp_suf h1
theorem brkL_suf (e : Nat) {σ : Type} (one : σ → St → List Tok → Rs σ) (hone : ∀ acc s ts acc' s' r, one acc s ts = .inl (acc', s', r) → r <:+ ts) (k m : Nat) (acc acc' : σ) (s s' : St) (ts r : List Tok)
    (h : brkL e one k m acc s ts = .inl (acc', s', r)) : r <:+ ts := by
  induction k generalizing m acc s ts with
  | zero => cases h
  | succ k ih =>
    simp only [brkL] at h
    split at h
    · split at h
      · cases h
      · obtain ⟨a, s1, r1, h1, h2⟩ := bnd_ok h
        exact (ih _ _ _ _ h2).trans ((hone _ _ _ _ _ _ h1).trans (List.tail_suffix _))
    · rw [(inl_ok h).2.2]
      exact List.suffix_refl _
theorem brk_suf (e : Nat) {σ : Type} (one : σ → St → List Tok → Rs σ) (hone : ∀ acc s ts acc' s' r, one acc s ts = .inl (acc', s', r) → r <:+ ts) (acc acc' : σ) (s s' : St) (ts r : List Tok)
    (h : brk e one acc s ts = .inl (acc', s', r)) : r <:+ ts := by
  obtain ⟨u, s1, r1, h1, h2⟩ := bnd_ok h
  obtain ⟨a, s2, r2, h3, h4⟩ := bnd_ok h2
  obtain ⟨u3, s3, r3, h5, h6⟩ := bnd_ok h4
  obtain ⟨_, _, rfl⟩ := inl_ok h6
  have k2 : r2 <:+ r1 := by
    split at h3
    · rw [(inl_ok h3).2.2]
      exact List.suffix_refl _
    · obtain ⟨a1, s5, r5, h7, h8⟩ := bnd_ok h3
      exact (brkL_suf e one hone _ _ _ _ _ _ _ _ h8).trans (hone _ _ _ _ _ _ h7)
  exact (skp_suf h5).trans (k2.trans (skp_suf h1))
theorem parOne_suf (e : Nat) (acc : List Tr) (s : St) (ts : List Tok) (acc' : List Tr) (s' : St) (r : List Tok) (h : parOne e acc s ts = .inl (acc', s', r)) : r <:+ ts := by
  obtain ⟨a, s1, r1, h1, h2⟩ := bnd_ok h
  obtain ⟨b, s2, r2, h3, h4⟩ := bnd_ok h2
  obtain ⟨_, _, rfl⟩ := inl_ok h4
  exact (ty_suf _ _ _ _ _ _ _ h3).trans (name_suf h1)
theorem argOne_suf (e f : Nat) (acc : List Tr) (s : St) (ts : List Tok) (acc' : List Tr) (s' : St) (r : List Tok) (h : argOne e f acc s ts = .inl (acc', s', r)) : r <:+ ts := by
  obtain ⟨a, s1, r1, h1, h2⟩ := bnd_ok h
  obtain ⟨_, _, rfl⟩ := inl_ok h2
  exact pe_suf _ _ _ _ _ _ _ _ _ h1
theorem plainB_suf (e f d : Nat) (A : List UInt8) (s s' : St) (ts r : List Tok) (x : Flds) (h : plainB e f d A s ts = .inl (x, s', r)) : r <:+ ts := by
  unfold plainB at h
  split at h
  · obtain ⟨a, s1, r1, h1, h2⟩ := bnd_ok h
    obtain ⟨b, s2, r2, h3, h4⟩ := bnd_ok h2
    obtain ⟨_, _, rfl⟩ := inl_ok h4
    exact (pe_suf _ _ _ _ _ _ _ _ _ h3).trans (skp_suf h1)
  · split at h
    · obtain ⟨a, s1, r1, h1, h2⟩ := bnd_ok h
      obtain ⟨_, _, rfl⟩ := inl_ok h2
      exact pe_suf _ _ _ _ _ _ _ _ _ h1
    · split at h
      · obtain ⟨a, s1, r1, h1, h2⟩ := bnd_ok h
        obtain ⟨b, s2, r2, h3, h4⟩ := bnd_ok h2
        obtain ⟨c, s3, r3, h5, h6⟩ := bnd_ok h4
        obtain ⟨_, _, rfl⟩ := inl_ok h6
        exact (num_suf h5).trans ((ty_suf _ _ _ _ _ _ _ h3).trans (name_suf h1))
      · split at h
        · obtain ⟨a, s1, r1, h1, h2⟩ := bnd_ok h
          obtain ⟨_, _, rfl⟩ := inl_ok h2
          exact name_suf h1
        · split at h
          · obtain ⟨a, s1, r1, h1, h2⟩ := bnd_ok h
            obtain ⟨_, _, rfl⟩ := inl_ok h2
            exact brk_suf e _ (fun acc s ts acc' s' r => argOne_suf e f acc s ts acc' s' r) _ _ _ _ _ _ h1
          · rw [(inl_ok h).2.2]
            exact List.suffix_refl _
theorem plain_suf (e f d : Nat) (s s' : St) (ts r : List Tok) (x : Flds) (h : plain e f d s ts = .inl (x, s', r)) : r <:+ ts := by
  unfold plain at h
  split at h
  · exact plainB_suf _ _ _ _ _ _ _ _ _ h
  · obtain ⟨a, s1, r1, h1, h2⟩ := bnd_ok h
    exact (plainB_suf _ _ _ _ _ _ _ _ _ h2).trans (name_suf h1)
theorem nestA_suf (e f d : Nat) (s s' : St) (ts r : List Tok) (x : Flds) (h : nestA e f d s ts = .inl (x, s', r)) : r <:+ ts := by
  unfold nestA at h
  split at h
  · obtain ⟨a, s1, r1, h1, h2⟩ := bnd_ok h
    obtain ⟨b, s2, r2, h3, h4⟩ := bnd_ok h2
    obtain ⟨c, s3, r3, h5, h6⟩ := bnd_ok h4
    obtain ⟨_, _, rfl⟩ := inl_ok h6
    exact (name_suf h5).trans ((skp_suf h3).trans (name_suf h1))
  · obtain ⟨a, s1, r1, h1, h2⟩ := bnd_ok h
    obtain ⟨_, _, rfl⟩ := inl_ok h2
    exact pe_suf _ _ _ _ _ _ _ _ _ h1
theorem ps_suf (e f g : Nat) (acc l : List Tr) (s s' : St) (ts r : List Tok) (h : ps e f g acc s ts = .inl (l, s', r)) : r <:+ ts := by
  induction f generalizing g acc l s s' ts r with
  | zero => cases h
  | succ f ih =>
    rcases (by omega : g = 0 ∨ g = 1 ∨ 2 ≤ g) with rfl | rfl | hg
    · rw [ps_0] at h
      split at h
      · cases h
      · obtain ⟨u, s1, r1, h1, h2⟩ := bnd_ok h
        obtain ⟨l2, s2, r2, h3, h4⟩ := bnd_ok h2
        obtain ⟨u3, s3, r3, h5, h6⟩ := bnd_ok h4
        obtain ⟨_, _, rfl⟩ := inl_ok h6
        exact (skp_suf h5).trans ((ih _ _ _ _ _ _ _ h3).trans (skp_suf h1))
    · rw [ps_1] at h
      split at h
      · cases h
      · split at h
        · cases h
        · split at h
          · obtain ⟨x, s1, r1, h1, h2⟩ := bnd_ok h
            obtain ⟨u3, s3, r3, h5, h6⟩ := bnd_ok h2
            obtain ⟨_, _, rfl⟩ := inl_ok h6
            exact (skp_suf h5).trans ((plain_suf _ _ _ _ _ _ _ _ h1).trans (List.tail_suffix _))
          · obtain ⟨x, s1, r1, h1, h2⟩ := bnd_ok h
            obtain ⟨body, s2, r2, h3, h4⟩ := bnd_ok h2
            obtain ⟨els, s3, r3, h5, h6⟩ := bnd_ok h4
            obtain ⟨_, _, rfl⟩ := inl_ok h6
            have k3 : r3 <:+ r2 := by
              split at h5
              · obtain ⟨u7, s7, r7, h7, h8⟩ := bnd_ok h5
                exact (ih _ _ _ _ _ _ _ h8).trans (skp_suf h7)
              · rw [(inl_ok h5).2.2]
                exact List.suffix_refl _
            exact k3.trans ((ih _ _ _ _ _ _ _ h3).trans ((nestA_suf _ _ _ _ _ _ _ _ h1).trans (List.tail_suffix _)))
    · rw [ps_2 _ _ _ _ _ _ hg] at h
      split at h
      · rw [(inl_ok h).2.2]
        exact List.suffix_refl _
      · obtain ⟨l1, s1, r1, h1, h2⟩ := bnd_ok h
        exact (ih _ _ _ _ _ _ _ h2).trans (ih _ _ _ _ _ _ _ h1)
/-- A stage ends with a right brace. -/
theorem stage_end (e f : Nat) (s s' : St) (ts r : List Tok) (x : Tr) (h : stage e f s ts = .inl (x, s', r)) : ∃ pre t, ts = pre ++ t :: r ∧ t.text = [125] := by
  obtain ⟨u, s1, r1, h1, h2⟩ := bnd_ok h
  obtain ⟨nm, s2, r2, h3, h4⟩ := bnd_ok h2
  obtain ⟨l, s3, r3, h5, h6⟩ := bnd_ok h4
  obtain ⟨b, s4, r4, h7, h8⟩ := bnd_ok h6
  obtain ⟨_, _, rfl⟩ := inl_ok h8
  have k3 := (brk_suf e _ (fun acc s ts acc' s' r => parOne_suf e acc s ts acc' s' r) _ _ _ _ _ _ h5).trans ((name_suf h3).trans (skp_suf h1))
  cases f with
  | zero => cases h7
  | succ f =>
    rw [ps_0] at h7
    split at h7
    · cases h7
    · obtain ⟨u, s5, r5, g1, g2⟩ := bnd_ok h7
      obtain ⟨l2, s6, r6, g3, g4⟩ := bnd_ok g2
      obtain ⟨u3, s7, r7, g5, g6⟩ := bnd_ok g4
      obtain ⟨_, _, rfl⟩ := inl_ok g6
      obtain ⟨ht, _, rfl⟩ := skp_ok g5
      have k6 := (ps_suf _ _ _ _ _ _ _ _ _ g3).trans ((skp_suf g1).trans k3)
      obtain ⟨pre, hp⟩ := k6
      cases r6 with
      | nil => cases ht
      | cons t r => exact ⟨pre, t, hp.symm, ht⟩
theorem stages_end (e f k : Nat) (acc l : List Tr) (s s' : St) (ts r : List Tok) (h : stages e f k acc s ts = .inl (l, s', r)) : r = [] ∧ (ts ≠ [] → (∃ pre t, ts = pre ++ [t] ∧ t.text = [125]) ∧ acc.length < l.length) := by
  induction k generalizing acc s ts with
  | zero => cases h
  | succ k ih =>
    simp only [stages] at h
    split at h
    · rename_i he
      obtain ⟨_, _, rfl⟩ := inl_ok h
      have : ts = [] := by simpa using he
      exact ⟨this, fun hn => absurd this hn⟩
    · split at h
      · cases h
      · obtain ⟨x, s1, r1, h1, h2⟩ := bnd_ok h
        obtain ⟨hr, hh⟩ := ih _ _ _ h2
        refine ⟨hr, fun _ => ?_⟩
        obtain ⟨pre, t, hp, ht⟩ := stage_end _ _ _ _ _ _ _ h1
        by_cases hr1 : r1 = []
        · subst hr1
          refine ⟨⟨pre, t, hp, ht⟩, ?_⟩
          cases k with
          | zero => cases h2
          | succ k =>
            simp only [stages] at h2
            rw [if_pos (by simp)] at h2
            rw [← (inl_ok h2).1]
            simp
        · obtain ⟨⟨pre2, t2, hp2, ht2⟩, hl⟩ := hh hr1
          refine ⟨⟨pre ++ t :: pre2, t2, by rw [hp, hp2]; simp, ht2⟩, ?_⟩
          simp at hl
          omega
/-- More behind: what was read is read, and more. -/
theorem stages_more (e e' f k : Nat) (us : List Tok) (acc l l' : List Tr) (s s' s2 : St) (ts r r2 : List Tok) (hus : us ≠ []) (h : stages e f k acc s ts = .inl (l, s', r)) (h2 : stages e' f k acc s (ts ++ us) = .inl (l', s2, r2)) : l.length < l'.length := by
  induction k generalizing acc s ts with
  | zero => cases h
  | succ k ih =>
    by_cases hts : ts = []
    · subst hts
      simp only [stages] at h
      rw [if_pos (by simp)] at h
      obtain ⟨rfl, _, _⟩ := inl_ok h
      exact ((stages_end _ _ _ _ _ _ _ _ _ h2).2 (by simpa using hus)).2
    · simp only [stages] at h h2
      rw [if_neg (by simpa using hts)] at h
      rw [if_neg (by simp [hts]), txt_app hts] at h2
      split at h
      · cases h
      · rename_i hc
        rw [if_neg hc] at h2
        obtain ⟨x, s1, r1, h3, h4⟩ := bnd_ok h
        rw [stage_ext e e' f us _ _ _ _ _ h3] at h2
        exact ih _ _ _ h4 h2
theorem prog_more (e e' f k : Nat) (us ts : List Tok) (l l' : List Tr) (s' s2 : St) (r r2 : List Tok) (hus : us ≠ []) (h : prog e f k ts = .inl (l, s', r)) (h2 : prog e' f k (ts ++ us) = .inl (l', s2, r2)) : l.length < l'.length := by
  obtain ⟨x, s1, r1, h3, h4⟩ := bnd_ok h
  unfold prog at h2
  rw [stage_ext e e' f us _ _ _ _ _ h3] at h2
  exact stages_more e e' f k us _ _ _ _ _ _ _ _ _ hus h4 h2
theorem prog_end (e f k : Nat) (ts : List Tok) (l : List Tr) (s' : St) (r : List Tok) (h : prog e f k ts = .inl (l, s', r)) : ∃ pre t, ts = pre ++ [t] ∧ t.text = [125] := by
  obtain ⟨x, s1, r1, h3, h4⟩ := bnd_ok h
  obtain ⟨pre, t, hp, ht⟩ := stage_end _ _ _ _ _ _ _ h3
  by_cases hr1 : r1 = []
  · subst hr1
    exact ⟨pre, t, hp, ht⟩
  · obtain ⟨⟨pre2, t2, hp2, ht2⟩, _⟩ := (stages_end _ _ _ _ _ _ _ _ _ h4).2 hr1
    exact ⟨pre ++ t :: pre2, t2, by rw [hp, hp2]; simp, ht2⟩
end Go.Proofs.YtdnlnpdaplonfabDoor.Sx
/- A text that is cut off: its tokens. -/
namespace Go.Proofs.YtdnlnpdaplonfabDoor.Tk

theorem run_take (l : List UInt8) (n : Nat) : run (l.take n) = min (run l) n := by
  induction l generalizing n with
  | nil => simp [run]
  | cons b t ih =>
    cases n with
    | zero => simp [run]
    | succ n =>
      simp only [List.take_succ_cons, run]
      split
      · rw [ih]; omega
      · simp
theorem skip_take (l : List UInt8) (r : Bool) (n : Nat) : skip r (l.take n) = min (skip r l) n := by
  induction l generalizing r n with
  | nil => simp [skip]
  | cons b t ih =>
    cases n with
    | zero => simp [skip]
    | succ n =>
      simp only [List.take_succ_cons, skip]
      repeat' split
      all_goals first | (rw [ih]; omega) | simp
theorem take_run_take (l : List UInt8) (n : Nat) (h : run l ≤ n) : (l.take n).take (run (l.take n)) = l.take (run l) := by
  rw [run_take, List.take_take]
  congr 1
  omega
theorem sign_two (b b2 : UInt8) (t t' : List UInt8) : signAns (b :: b2 :: t) = signAns (b :: b2 :: t') := by
  by_cases h1 : b = 61
  · by_cases h2 : b2 = 61
    · subst h1 h2; rfl
    · subst h1
      unfold signAns
      split <;> split <;> simp_all
  · unfold signAns
    split <;> split <;> simp_all
/-- A token that ends ahead of the cut is as it was. -/
theorem tok_take (l : List UInt8) (n : Nat) (hn : 0 < n) (hc : (tok l).code = 0) (h : (tok l).len ≤ n) : tok (l.take n) = tok l := by
  have hlen := tok_len l hc
  unfold tok at *
  by_cases hr : 0 < run l
  · rw [if_pos hr] at hc h hlen
    have hrl : run l ≤ n := by
      by_cases hd : isD (l.headD 0) = true
      · rw [if_pos hd] at hc h
        rw [numAns_len _ hc] at h
        have := run_le l
        simp at h
        omega
      · rw [if_neg hd] at hc h
        rw [nameAns_len _ hc] at h
        have := run_le l
        simp at h
        omega
    rw [if_pos hr, run_take, if_pos (by omega), show min (run l) n = run l from by omega, List.take_take, show min (run l) n = run l from by omega]
    have hh : (l.take n).headD 0 = l.headD 0 := by
      cases l with
      | nil => simp
      | cons b t =>
        cases n with
        | zero => omega
        | succ n => rfl
    rw [hh]
  · rw [if_neg hr] at hc h hlen ⊢
    rw [run_take, if_neg (by omega)]
    unfold signAns at *
    match l, n, hn with
    | [], _, _ => simp
    | b :: t, n + 1, _ =>
      cases t with
      | nil => simp
      | cons b2 t2 =>
        cases n with
        | zero =>
          simp only [List.take_succ_cons, List.take_zero]
          split at h
          · simp_all
          · simp at h
          · rename_i b' t' hne heq
            simp only [List.cons.injEq] at heq
            obtain ⟨rfl, rfl⟩ := heq
            repeat' split
            all_goals first | rfl | simp_all
        | succ n =>
          have hs := sign_two b b2 (t2.take n) t2
          unfold signAns at hs
          exact hs
end Go.Proofs.YtdnlnpdaplonfabDoor.Tk
/- A text that is cut off: its tokens are the first ones, or the last one is cut. -/
namespace Go.Proofs.YtdnlnpdaplonfabDoor.Tk

theorem run_head (l : List UInt8) (h : 0 < run l) : (isL (l.headD 0) || isD (l.headD 0)) = true := by
  cases l with
  | nil => simp [run] at h
  | cons b t =>
    simp only [run] at h
    split at h
    · assumption
    · omega
theorem tok_cut (l : List UInt8) (n : Nat) (hn : 0 < n) (hc : (tok l).code = 0) (h : n < (tok l).len) (hc' : (tok (l.take n)).code = 0) : (tok (l.take n)).len = n ∧ l.take n ≠ [125] := by
  by_cases hr : 0 < run l
  · have hrl : n < run l := by
      unfold tok at hc h
      rw [if_pos hr] at hc h
      have := run_le l
      by_cases hd : isD (l.headD 0) = true
      · rw [if_pos hd] at hc h
        rw [numAns_len _ hc] at h
        simp at h
        omega
      · rw [if_neg hd] at hc h
        rw [nameAns_len _ hc] at h
        simp at h
        omega
    have hrt : run (l.take n) = n := by rw [run_take]; omega
    have hle := run_le l
    constructor
    · unfold tok at hc' ⊢
      rw [hrt, if_pos hn] at hc' ⊢
      by_cases hd : isD ((l.take n).headD 0) = true
      · rw [if_pos hd] at hc' ⊢
        rw [numAns_len _ hc']
        simp
        omega
      · rw [if_neg hd] at hc' ⊢
        rw [nameAns_len _ hc']
        simp
        omega
    · intro e
      have h1 := run_head (l.take n) (by omega)
      rw [e] at h1
      exact absurd h1 (by decide)
  · unfold tok at hc h
    rw [if_neg hr] at hc h
    unfold signAns at hc h
    split at h
    · simp at h
    · simp at h
      obtain rfl : n = 1 := by omega
      simp only [List.take_succ_cons, List.take_zero] at hc' ⊢
      exact ⟨by decide, by decide⟩
    · split at h
      · simp at h; omega
      · simp at h

/-- What a cut leaves of tokens. -/
def CutOf (A B : List Tok) (q : Nat) : Prop := (∃ k, B = A.take k ∧ (k < A.length ∨ ∀ t ∈ A, t.at' < q)) ∨ ∃ B' t, B = B' ++ [t] ∧ t.text ≠ [125]
theorem CutOf.cons {A B : List Tok} {q : Nat} (h : CutOf A B q) (t : Tok) (ht : t.at' < q) : CutOf (t :: A) (t :: B) q := by
  rcases h with ⟨k, h1, h2⟩ | ⟨B', t', h1, h2⟩
  · refine .inl ⟨k + 1, by simp [h1], ?_⟩
    rcases h2 with h2 | h2
    · exact .inl (by simp; omega)
    · refine .inr (fun t' ht' => ?_)
      rcases List.mem_cons.1 ht' with rfl | ht'
      · exact ht
      · exact h2 t' ht'
  · exact .inr ⟨t :: B', t', by simp [h1], h2⟩
theorem cut_tl (f f' p m : Nat) (l : List UInt8) (hf : l.length < f) (hf' : (l.take m).length < f') (h : (tl f p l).2.1 = 0) (h' : (tl f' p (l.take m)).2.1 = 0) : CutOf (tl f p l).1 (tl f' p (l.take m)).1 (p + m) := by
  induction f generalizing f' p m l with
  | zero => omega
  | succ f ih =>
    obtain ⟨f', rfl⟩ : ∃ g, f' = g + 1 := ⟨f' - 1, by omega⟩
    by_cases hl : l = []
    · subst hl
      exact .inl ⟨0, by simp [tl], .inr (by simp [tl])⟩
    · have hc : (tok l).code = 0 := by
        by_cases hc : (tok l).code = 0
        · exact hc
        · rw [tok_bad _ _ _ hl hc] at h
          exact absurd h hc
      obtain ⟨n1, n2⟩ := tok_len l hc
      rw [tok_at l p f hl hc] at h ⊢
      dsimp only at h ⊢
      have hA : (tl f (p + ((tok l).len + skip false (l.drop (tok l).len))) (l.drop ((tok l).len + skip false (l.drop (tok l).len)))).2.1 = 0 := by
        split at h
        · rename_i h1; exact absurd h h1
        · rename_i h1; simpa using h1
      rw [if_neg (by simpa using hA)]
      cases m with
      | zero => exact .inl ⟨0, by simp [tl], .inl (by simp)⟩
      | succ m =>
        have hl' : l.take (m + 1) ≠ [] := by simpa using hl
        by_cases hlen : (tok l).len ≤ m + 1
        · have ht := tok_take l (m + 1) (by omega) hc hlen
          have hc' : (tok (l.take (m + 1))).code = 0 := by rw [ht]; exact hc
          rw [tok_at _ p f' hl' hc'] at h' ⊢
          dsimp only at h' ⊢
          rw [ht] at h' ⊢
          have hsk : skip false ((l.take (m + 1)).drop (tok l).len) = min (skip false (l.drop (tok l).len)) (m + 1 - (tok l).len) := by
            rw [List.drop_take, skip_take]
          rw [hsk] at h' ⊢
          have htx : (l.take (m + 1)).take (tok l).len = l.take (tok l).len := by
            rw [List.take_take]
            congr 1
            omega
          rw [htx] at h' ⊢
          generalize hs : skip false (l.drop (tok l).len) = sk at *
          have hB : (tl f' (p + ((tok l).len + min sk (m + 1 - (tok l).len))) ((l.take (m + 1)).drop ((tok l).len + min sk (m + 1 - (tok l).len)))).2.1 = 0 := by
            split at h'
            · rename_i h1; exact absurd h' h1
            · rename_i h1; simpa using h1
          rw [if_neg (by simpa using hB)]
          by_cases hj : (tok l).len + sk ≤ m + 1
          · have hmin : min sk (m + 1 - (tok l).len) = sk := by omega
            rw [hmin] at hB ⊢
            rw [List.drop_take] at hB ⊢
            have hx := ih f' (p + ((tok l).len + sk)) (m + 1 - ((tok l).len + sk)) (l.drop ((tok l).len + sk)) (by rw [List.length_drop]; omega) (by rw [List.length_take, List.length_drop]; rw [List.length_take] at hf'; omega) hA hB
            rw [show p + ((tok l).len + sk) + (m + 1 - ((tok l).len + sk)) = p + (m + 1) from by omega] at hx
            exact hx.cons _ (by dsimp only; omega)
          · have hmin : (tok l).len + min sk (m + 1 - (tok l).len) = m + 1 := by omega
            rw [hmin, List.drop_take, Nat.sub_self, List.take_zero, tl_nil]
            generalize hA' : (tl f (p + ((tok l).len + sk)) (l.drop ((tok l).len + sk))).1 = A'
            refine .inl ⟨1, by simp, ?_⟩
            cases A' with
            | nil => exact .inr (by simp)
            | cons a b => exact .inl (by simp)
        · have hc' : (tok (l.take (m + 1))).code = 0 := by
            by_cases hc' : (tok (l.take (m + 1))).code = 0
            · exact hc'
            · rw [tok_bad _ _ _ hl' hc'] at h'
              exact absurd h' hc'
          obtain ⟨c1, c2⟩ := tok_cut l (m + 1) (by omega) hc (by omega) hc'
          rw [tok_at _ p f' hl' hc'] at h' ⊢
          dsimp only at h' ⊢
          rw [c1] at h' ⊢
          have hz2 : (l.take (m + 1)).drop (m + 1 + skip false ((l.take (m + 1)).drop (m + 1))) = [] := List.drop_eq_nil_of_le (by rw [List.length_take]; omega)
          rw [hz2, tl_nil]
          refine .inr ⟨[], _, rfl, ?_⟩
          dsimp only
          rw [List.take_take, Nat.min_self]
          exact c2
end Go.Proofs.YtdnlnpdaplonfabDoor.Tk

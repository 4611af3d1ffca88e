import Derived.Test.YtfngmdebmedkjacGreatDoorPlA
/- The fuel is enough. -/
namespace Go.Proofs.YtfngmdebmedkjacGreatDoor.Sx
open Go.Proofs.YtfngmdebmedkjacGreatDoor.Tk

def Dry' {α : Type} (r : Rs α) : Prop := ∃ p q, r = .inr (99, p, q)
theorem dry_bnd {α β : Type} {m : Rs α} {k : α → St → List Tok → Rs β} (h : Dry' (bnd m k)) : Dry' m ∨ ∃ x s r, m = .inl (x, s, r) ∧ Dry' (k x s r) := by
  rcases m with ⟨x, s, r⟩ | ⟨c, p, q⟩
  · exact .inr ⟨x, s, r, rfl, h⟩
  · obtain ⟨p', q', he⟩ := h
    simp only [bnd, Sum.inr.injEq, Prod.mk.injEq] at he
    exact .inl ⟨p, q, by rw [he.1]⟩
theorem not_dry_inl {α : Type} {x : α × St × List Tok} : ¬ Dry' (.inl x : Rs α) := by rintro ⟨p, q, h⟩; cases h
theorem not_dry_bad {α : Type} {code : Int} (hc : code ≠ 99) (e : Nat) (ts : List Tok) : ¬ Dry' (bad code e ts : Rs α) := by
  rintro ⟨p, q, h⟩
  simp only [bad, Sum.inr.injEq, Prod.mk.injEq] at h
  exact hc h.1
theorem not_dry_unfit {α : Type} (e : Nat) (ts : List Tok) : ¬ Dry' (unfit e ts : Rs α) := by
  unfold unfit
  refine not_dry_bad ?_ e ts
  cases ts <;> simp [ucode]
theorem not_dry_skp (e : Nat) (x : List UInt8) (s : St) (ts : List Tok) : ¬ Dry' (skp e x s ts) := by
  unfold skp
  split
  · exact not_dry_inl
  · exact not_dry_unfit _ _
theorem not_dry_tokOf (e : Nat) (k : Int) (s : St) (ts : List Tok) : ¬ Dry' (tokOf e k s ts) := by
  cases ts with
  | nil => exact not_dry_unfit _ _
  | cons t r =>
    simp only [tokOf]
    split
    · exact not_dry_inl
    · exact not_dry_unfit _ _
theorem not_dry_name (e : Nat) (s : St) (ts : List Tok) : ¬ Dry' (nameOf e s ts) := by
  intro h
  rcases dry_bnd h with h | ⟨_, _, _, _, h⟩
  · exact not_dry_tokOf _ _ _ _ h
  · exact not_dry_inl h
theorem not_dry_num (e : Nat) (s : St) (ts : List Tok) : ¬ Dry' (numOf e s ts) := by
  intro h
  rcases dry_bnd h with h | ⟨_, _, _, _, h⟩
  · exact not_dry_tokOf _ _ _ _ h
  · exact not_dry_inl h
theorem not_dry_ent (e : Nat) (s : St) (ts : List Tok) : ¬ Dry' (ent e s ts) := by
  unfold ent
  split
  · exact not_dry_bad (by decide) _ _
  · exact not_dry_inl
theorem dry_join {op : Int} {x : Tr} {m : Rs Tr} (h : Dry' (join op x m)) : Dry' m := by
  rcases dry_bnd h with h | ⟨_, _, _, _, h⟩
  · exact h
  · exact absurd h not_dry_inl

/-- A unit reads a token at least. -/
def need (g : Nat) : Nat := if g = 0 then 4 else if g = 1 then 3 else if g = 2 then 2 else if g = 4 then 1 else if g = 5 then 1 else 1
theorem unit_less (e f g : Nat) (x z : Tr) (s s' : St) (ts r : List Tok) (hg : g < 4) (h : pe e f g x s ts = .inl (z, s', r)) : r.length < ts.length := by
  induction f generalizing g x z s s' ts r with
  | zero => cases h
  | succ f ih =>
    rcases pe_kinds g with rfl | rfl | rfl | rfl | rfl | hg'
    · rw [pe_0] at h
      obtain ⟨z1, s3, r3, h1, h2⟩ := bnd_ok h
      obtain ⟨y, s1, r1, h3, h4⟩ := bnd_ok h1
      have k1 := ih _ _ _ _ _ _ _ (by omega) h3
      have k2 : r3.length ≤ r1.length := by
        split at h4
        · obtain ⟨y2, s2, h5, _, _⟩ := join_ok h4
          have := (pe_keeps _ _ _ _ _ _ _ _ _ h5).len
          simp at this
          omega
        · split at h4
          · obtain ⟨y2, s2, h5, _, _⟩ := join_ok h4
            have := (pe_keeps _ _ _ _ _ _ _ _ _ h5).len
            simp at this
            omega
          · obtain ⟨_, _, rfl⟩ := inl_ok h4
            exact Nat.le_refl _
      split at h2
      · cases h2
      · obtain ⟨_, _, rfl⟩ := inl_ok h2
        omega
    · rw [pe_1] at h
      obtain ⟨y, s1, r1, h3, h4⟩ := bnd_ok h
      have k1 := ih _ _ _ _ _ _ _ (by omega) h3
      have k2 := (pe_keeps _ _ _ _ _ _ _ _ _ h4).len
      omega
    · rw [pe_2] at h
      obtain ⟨y, s1, r1, h3, h4⟩ := bnd_ok h
      have k1 := ih _ _ _ _ _ _ _ (by omega) h3
      have k2 := (pe_keeps _ _ _ _ _ _ _ _ _ h4).len
      omega
    · omega
    · omega
    · rw [pe_u _ _ _ _ _ _ hg'] at h
      split at h
      · rename_i ht
        obtain ⟨_, s1, r1, h1, h2⟩ := bnd_ok h
        obtain ⟨y, s2, r2, h3, h4⟩ := bnd_ok h2
        obtain ⟨_, s3, r3, h5, h6⟩ := bnd_ok h4
        obtain ⟨_, _, rfl⟩ := ent_ok h1
        have k := (pe_keeps _ _ _ _ _ _ _ _ _ h3).len
        have k2 := (skp_keeps h5).len
        have l1 := txt_len ht
        obtain ⟨_, _, rfl⟩ := inl_ok h6
        omega
      · split at h
        · rename_i ht
          obtain ⟨_, s1, r1, h1, h2⟩ := bnd_ok h
          obtain ⟨y, s2, r2, h3, h4⟩ := bnd_ok h2
          obtain ⟨_, _, rfl⟩ := ent_ok h1
          have k := (pe_keeps _ _ _ _ _ _ _ _ _ h3).len
          have l1 := txt_len ht
          obtain ⟨_, _, rfl⟩ := inl_ok h4
          omega
        · split at h
          · obtain ⟨y, s1, r1, h3, h4⟩ := bnd_ok h
            obtain ⟨t, rfl, _, _, _⟩ := numOf_ok h3
            obtain ⟨_, _, rfl⟩ := inl_ok h4
            simp
          · obtain ⟨y, s1, r1, h3, h4⟩ := bnd_ok h
            obtain ⟨t, rfl, _, _, _⟩ := nameOf_ok h3
            obtain ⟨_, _, rfl⟩ := inl_ok h4
            simp
theorem pe_wet (e f g : Nat) (x : Tr) (s : St) (ts : List Tok) (hf : 5 * ts.length + need g ≤ f) : ¬ Dry' (pe e f g x s ts) := by
  induction f generalizing g x s ts with
  | zero =>
    unfold need at hf
    repeat' split at hf
    all_goals omega
  | succ f ih =>
    intro h
    rcases pe_kinds g with rfl | rfl | rfl | rfl | rfl | hg
    · have n1 : need 1 = 3 := rfl
      have n0 : need 0 = 4 := rfl
      rw [pe_0] at h
      rcases dry_bnd h with h | ⟨z, s3, r3, h1, h2⟩
      · rcases dry_bnd h with h | ⟨y, s1, r1, h3, h4⟩
        · exact ih 1 _ _ _ (by omega) h
        · have k1 := unit_less _ _ _ _ _ _ _ _ _ (by omega) h3
          split at h4
          · exact ih 1 _ _ _ (by simp; omega) (dry_join h4)
          · split at h4
            · exact ih 1 _ _ _ (by simp; omega) (dry_join h4)
            · exact not_dry_inl h4
      · split at h2
        · obtain ⟨p, q, he⟩ := h2
          simp at he
        · exact not_dry_inl h2
    · have n1 : need 1 = 3 := rfl
      have n2 : need 2 = 2 := rfl
      have n4 : need 4 = 1 := rfl
      rw [pe_1] at h
      rcases dry_bnd h with h | ⟨y, s1, r1, h3, h4⟩
      · exact ih 2 _ _ _ (by omega) h
      · have k1 := unit_less _ _ _ _ _ _ _ _ _ (by omega) h3
        exact ih 4 _ _ _ (by omega) h4
    · have n2 : need 2 = 2 := rfl
      have n3 : need 3 = 1 := rfl
      have n5 : need 5 = 1 := rfl
      rw [pe_2] at h
      rcases dry_bnd h with h | ⟨y, s1, r1, h3, h4⟩
      · exact ih 3 _ _ _ (by omega) h
      · have k1 := unit_less _ _ _ _ _ _ _ _ _ (by omega) h3
        exact ih 5 _ _ _ (by omega) h4
    · have n2 : need 2 = 2 := rfl
      have n4 : need 4 = 1 := rfl
      rw [pe_4] at h
      split at h
      · rename_i ht
        have l1 := txt_len ht
        rcases dry_bnd h with h | ⟨y, s1, r1, h3, h4⟩
        · exact ih 2 _ _ _ (by omega) (dry_join h)
        · obtain ⟨y2, s2, h5, _, _⟩ := join_ok h3
          have k1 := unit_less _ _ _ _ _ _ _ _ _ (by omega) h5
          exact ih 4 _ _ _ (by omega) h4
      · split at h
        · rename_i ht
          have l1 := txt_len ht
          rcases dry_bnd h with h | ⟨y, s1, r1, h3, h4⟩
          · exact ih 2 _ _ _ (by omega) (dry_join h)
          · obtain ⟨y2, s2, h5, _, _⟩ := join_ok h3
            have k1 := unit_less _ _ _ _ _ _ _ _ _ (by omega) h5
            exact ih 4 _ _ _ (by omega) h4
        · exact not_dry_inl h
    · have n3 : need 3 = 1 := rfl
      have n5 : need 5 = 1 := rfl
      rw [pe_5] at h
      split at h
      · rename_i ht
        have l1 := txt_len ht
        rcases dry_bnd h with h | ⟨y, s1, r1, h3, h4⟩
        · exact ih 3 _ _ _ (by omega) (dry_join h)
        · obtain ⟨y2, s2, h5, _, _⟩ := join_ok h3
          have k1 := unit_less _ _ _ _ _ _ _ _ _ (by omega) h5
          exact ih 5 _ _ _ (by omega) h4
      · exact not_dry_inl h
    · have n3 : need 3 = 1 := rfl
      have n0 : need 0 = 4 := rfl
      have ng : need g = 1 := by
        unfold need
        rcases hg with rfl | hg
        · rfl
        · rw [if_neg (by omega), if_neg (by omega), if_neg (by omega), if_neg (by omega), if_neg (by omega)]
      rw [pe_u _ _ _ _ _ _ hg] at h
      split at h
      · rename_i ht
        have l1 := txt_len ht
        rcases dry_bnd h with h | ⟨_, s1, r1, h1, h⟩
        · exact not_dry_ent _ _ _ h
        · obtain ⟨_, _, rfl⟩ := ent_ok h1
          rcases dry_bnd h with h | ⟨y, s2, r2, h3, h⟩
          · exact ih 0 _ _ _ (by omega) h
          · rcases dry_bnd h with h | ⟨_, s3, r3, h5, h⟩
            · exact not_dry_skp _ _ _ _ h
            · exact not_dry_inl h
      · split at h
        · rename_i ht
          have l1 := txt_len ht
          rcases dry_bnd h with h | ⟨_, s1, r1, h1, h⟩
          · exact not_dry_ent _ _ _ h
          · obtain ⟨_, _, rfl⟩ := ent_ok h1
            rcases dry_bnd h with h | ⟨y, s2, r2, h3, h⟩
            · exact ih 3 _ _ _ (by omega) h
            · exact not_dry_inl h
        · split at h
          · rcases dry_bnd h with h | ⟨y, s1, r1, h3, h⟩
            · exact not_dry_num _ _ _ h
            · exact not_dry_inl h
          · rcases dry_bnd h with h | ⟨y, s1, r1, h3, h⟩
            · exact not_dry_name _ _ _ h
            · exact not_dry_inl h
end Go.Proofs.YtfngmdebmedkjacGreatDoor.Sx
/- The fuel is enough: statements, stages, programs. -/
namespace Go.Proofs.YtfngmdebmedkjacGreatDoor.Sx
open Go.Proofs.YtfngmdebmedkjacGreatDoor.Tk

theorem ty_wet (e : Nat) (acc : List UInt8) (s : St) (ts : List Tok) : ¬ Dry' (ty e acc s ts) := by
  induction ts generalizing acc with
  | nil => exact not_dry_unfit _ _
  | cons t r ih =>
    simp only [ty]
    split
    · split
      · exact not_dry_bad (by decide) _ _
      · exact ih _
    · intro h
      rcases dry_bnd h with h | ⟨_, _, _, _, h⟩
      · exact not_dry_skp _ _ _ _ h
      · exact not_dry_inl h
theorem brkL_wet (e : Nat) {σ : Type} (one : σ → St → List Tok → Rs σ) (L : Nat) (hone : ∀ acc s ts, ts.length ≤ L → ¬ Dry' (one acc s ts)) (hk : ∀ acc s ts acc' s' r, one acc s ts = .inl (acc', s', r) → r.length ≤ ts.length)
    (k m : Nat) (acc : σ) (s : St) (ts : List Tok) (hm : m ≤ 6) (hkm : 7 ≤ k + m) (hL : ts.length ≤ L) : ¬ Dry' (brkL e one k m acc s ts) := by
  induction k generalizing m acc s ts with
  | zero => omega
  | succ k ih =>
    simp only [brkL]
    split
    · split
      · exact not_dry_bad (by decide) _ _
      · intro h
        rcases dry_bnd h with h | ⟨a, s1, r1, h1, h⟩
        · exact hone _ _ _ (by simp; omega) h
        · have := hk _ _ _ _ _ _ h1
          simp at this
          exact ih _ _ _ _ (by omega) (by omega) (by omega) h
    · exact not_dry_inl
theorem brk_wet (e : Nat) {σ : Type} (one : σ → St → List Tok → Rs σ) (L : Nat) (hone : ∀ acc s ts, ts.length ≤ L → ¬ Dry' (one acc s ts)) (hk : ∀ acc s ts acc' s' r, one acc s ts = .inl (acc', s', r) → r.length ≤ ts.length)
    (acc : σ) (s : St) (ts : List Tok) (hL : ts.length ≤ L) : ¬ Dry' (brk e one acc s ts) := by
  intro h
  rcases dry_bnd h with h | ⟨_, s1, r1, h1, h⟩
  · exact not_dry_skp _ _ _ _ h
  · have k1 := (skp_keeps h1).len
    rcases dry_bnd h with h | ⟨_, s2, r2, h2, h⟩
    · split at h
      · exact not_dry_inl h
      · rcases dry_bnd h with h | ⟨a, s3, r3, h3, h⟩
        · exact hone _ _ _ (by omega) h
        · have := hk _ _ _ _ _ _ h3
          exact brkL_wet e one L hone hk 7 1 _ _ _ (by omega) (by omega) (by omega) h
    · rcases dry_bnd h with h | ⟨_, s3, r3, h3, h⟩
      · exact not_dry_skp _ _ _ _ h
      · exact not_dry_inl h
theorem parOne_wet (e : Nat) (acc : List Tr) (s : St) (ts : List Tok) : ¬ Dry' (parOne e acc s ts) := by
  intro h
  rcases dry_bnd h with h | ⟨_, _, _, _, h⟩
  · exact not_dry_name _ _ _ h
  · rcases dry_bnd h with h | ⟨_, _, _, _, h⟩
    · exact ty_wet _ _ _ _ h
    · exact not_dry_inl h
theorem argOne_wet (e f : Nat) (acc : List Tr) (s : St) (ts : List Tok) (hf : 5 * ts.length + 4 ≤ f) : ¬ Dry' (argOne e f acc s ts) := by
  intro h
  rcases dry_bnd h with h | ⟨_, _, _, _, h⟩
  · exact pe_wet e f 0 _ _ _ hf h
  · exact not_dry_inl h
theorem plainB_wet (e f d : Nat) (A : List UInt8) (s : St) (ts : List Tok) (hf : 5 * ts.length + 4 ≤ f) : ¬ Dry' (plainB e f d A s ts) := by
  unfold plainB
  split
  · intro h
    rcases dry_bnd h with h | ⟨_, s1, r1, h1, h⟩
    · exact not_dry_skp _ _ _ _ h
    · have k := (skp_keeps h1).len
      rcases dry_bnd h with h | ⟨_, _, _, _, h⟩
      · exact pe_wet e f 0 _ _ _ (by show 5 * _ + 4 ≤ f; omega) h
      · exact not_dry_inl h
  · split
    · intro h
      rcases dry_bnd h with h | ⟨_, _, _, _, h⟩
      · exact pe_wet e f 0 _ _ _ hf h
      · exact not_dry_inl h
    · split
      · intro h
        rcases dry_bnd h with h | ⟨_, _, _, _, h⟩
        · exact not_dry_name _ _ _ h
        · rcases dry_bnd h with h | ⟨_, _, _, _, h⟩
          · exact ty_wet _ _ _ _ h
          · rcases dry_bnd h with h | ⟨_, _, _, _, h⟩
            · exact not_dry_num _ _ _ h
            · exact not_dry_inl h
      · split
        · intro h
          rcases dry_bnd h with h | ⟨_, _, _, _, h⟩
          · exact not_dry_name _ _ _ h
          · exact not_dry_inl h
        · split
          · intro h
            rcases dry_bnd h with h | ⟨_, _, _, _, h⟩
            · exact brk_wet e _ ts.length (fun acc s r hr => argOne_wet e f acc s r (by omega)) (fun acc s r acc' s' r' h => (argOne_keeps e f acc s r acc' s' r' h).len) _ _ _ (Nat.le_refl _) h
            · exact not_dry_inl h
          · exact not_dry_inl
theorem plain_wet (e f d : Nat) (s : St) (ts : List Tok) (hf : 5 * ts.length + 4 ≤ f) : ¬ Dry' (plain e f d s ts) := by
  unfold plain
  split
  · exact plainB_wet _ _ _ _ _ _ hf
  · intro h
    rcases dry_bnd h with h | ⟨_, s1, r1, h1, h⟩
    · exact not_dry_name _ _ _ h
    · have k := (name_keeps h1).len
      exact plainB_wet _ _ _ _ _ _ (by omega) h
theorem nestA_wet (e f d : Nat) (s : St) (ts : List Tok) (hf : 5 * ts.length + 4 ≤ f) : ¬ Dry' (nestA e f d s ts) := by
  unfold nestA
  split
  · intro h
    rcases dry_bnd h with h | ⟨_, _, _, _, h⟩
    · exact not_dry_name _ _ _ h
    · rcases dry_bnd h with h | ⟨_, _, _, _, h⟩
      · exact not_dry_skp _ _ _ _ h
      · rcases dry_bnd h with h | ⟨_, _, _, _, h⟩
        · exact not_dry_name _ _ _ h
        · exact not_dry_inl h
  · intro h
    rcases dry_bnd h with h | ⟨_, _, _, _, h⟩
    · exact pe_wet e f 0 _ _ _ hf h
    · exact not_dry_inl h
theorem doOf_some {ts : List Tok} (h : doOf (txt ts) ≠ 0) : ts.tail.length + 1 = ts.length := by
  cases ts with
  | nil => exact absurd rfl h
  | cons a b => rfl
theorem stmt_less (e f : Nat) (acc l : List Tr) (s s' : St) (ts r : List Tok) (h : ps e f 1 acc s ts = .inl (l, s', r)) : r.length < ts.length := by
  cases f with
  | zero => cases h
  | succ f =>
    rw [ps_1] at h
    split at h
    · cases h
    · rename_i h0
      have hl := doOf_some h0
      split at h
      · cases h
      · split at h
        · obtain ⟨x, s1, r1, h1, h2⟩ := bnd_ok h
          obtain ⟨u3, s3, r3, h5, h6⟩ := bnd_ok h2
          obtain ⟨_, _, rfl⟩ := inl_ok h6
          have k := ((plain_keeps _ _ _ _ _ _ _ _ h1).trans (skp_keeps h5)).len
          omega
        · obtain ⟨x, s1, r1, h1, h2⟩ := bnd_ok h
          obtain ⟨body, s2, r2, h3, h4⟩ := bnd_ok h2
          obtain ⟨els, s3, r3, h5, h6⟩ := bnd_ok h4
          obtain ⟨_, _, rfl⟩ := inl_ok h6
          have k1 := (nestA_keeps _ _ _ _ _ _ _ _ h1).len
          have k2 := (ps_keeps _ _ _ _ _ _ _ _ _ h3).kp.len
          have k3 : r3.length ≤ r2.length := by
            split at h5
            · obtain ⟨u7, s7, r7, h7, h8⟩ := bnd_ok h5
              exact ((skp_keeps h7).trans (ps_keeps _ _ _ _ _ _ _ _ _ h8).kp).len
            · obtain ⟨_, _, rfl⟩ := inl_ok h5
              exact Nat.le_refl _
          omega
def needS (g : Nat) : Nat := if g = 0 then 1 else if g = 1 then 1 else 2
theorem ps_wet (e f g : Nat) (acc : List Tr) (s : St) (ts : List Tok) (hf : 6 * ts.length + needS g ≤ f) : ¬ Dry' (ps e f g acc s ts) := by
  induction f generalizing g acc s ts with
  | zero =>
    unfold needS at hf
    repeat' split at hf
    all_goals omega
  | succ f ih =>
    have n0 : needS 0 = 1 := rfl
    have n1 : needS 1 = 1 := rfl
    have n2 : needS 2 = 2 := rfl
    intro h
    rcases (by omega : g = 0 ∨ g = 1 ∨ 2 ≤ g) with rfl | rfl | hg
    · rw [ps_0] at h
      split at h
      · exact not_dry_bad (by decide) _ _ h
      · rcases dry_bnd h with h | ⟨_, s1, r1, h1, h⟩
        · exact not_dry_skp _ _ _ _ h
        · obtain ⟨ht, _, rfl⟩ := skp_ok h1
          have l1 := txt_len ht
          rcases dry_bnd h with h | ⟨_, s2, r2, h2, h⟩
          · exact ih 2 _ _ _ (by omega) h
          · rcases dry_bnd h with h | ⟨_, _, _, _, h⟩
            · exact not_dry_skp _ _ _ _ h
            · exact not_dry_inl h
    · rw [ps_1] at h
      split at h
      · exact not_dry_unfit _ _ h
      · rename_i h0
        have l1 := doOf_some h0
        split at h
        · exact not_dry_bad (by decide) _ _ h
        · split at h
          · rcases dry_bnd h with h | ⟨_, s1, r1, h1, h⟩
            · exact plain_wet _ _ _ _ _ (by omega) h
            · rcases dry_bnd h with h | ⟨_, _, _, _, h⟩
              · exact not_dry_skp _ _ _ _ h
              · exact not_dry_inl h
          · rcases dry_bnd h with h | ⟨_, s1, r1, h1, h⟩
            · exact nestA_wet _ _ _ _ _ (by omega) h
            · have k1 := (nestA_keeps _ _ _ _ _ _ _ _ h1).len
              rcases dry_bnd h with h | ⟨_, s2, r2, h2, h⟩
              · exact ih 0 _ _ _ (by omega) h
              · have k2 := (ps_keeps _ _ _ _ _ _ _ _ _ h2).kp.len
                rcases dry_bnd h with h | ⟨_, _, _, _, h⟩
                · split at h
                  · rcases dry_bnd h with h | ⟨_, s3, r3, h3, h⟩
                    · exact not_dry_skp _ _ _ _ h
                    · have k3 := (skp_keeps h3).len
                      exact ih 0 _ _ _ (by omega) h
                  · exact not_dry_inl h
                · exact not_dry_inl h
    · have ng : needS g = 2 := by
        unfold needS
        rw [if_neg (by omega), if_neg (by omega)]
      rw [ps_2 _ _ _ _ _ _ hg] at h
      split at h
      · exact not_dry_inl h
      · rcases dry_bnd h with h | ⟨l, s1, r1, h1, h⟩
        · exact ih 1 _ _ _ (by omega) h
        · have k := stmt_less _ _ _ _ _ _ _ _ h1
          exact ih 2 _ _ _ (by omega) h
theorem stage_wet (e f : Nat) (s : St) (ts : List Tok) (hf : 6 * ts.length + 1 ≤ f) : ¬ Dry' (stage e f s ts) := by
  intro h
  rcases dry_bnd h with h | ⟨_, s1, r1, h1, h⟩
  · exact not_dry_skp _ _ _ _ h
  · have k1 := (skp_keeps h1).len
    rcases dry_bnd h with h | ⟨_, s2, r2, h2, h⟩
    · exact not_dry_name _ _ _ h
    · have k2 := (name_keeps h2).len
      rcases dry_bnd h with h | ⟨_, s3, r3, h3, h⟩
      · exact brk_wet e _ r2.length (fun acc s r _ => parOne_wet e acc s r) (fun acc s r acc' s' r' h => (parOne_keeps e acc s r acc' s' r' h).len) _ _ _ (Nat.le_refl _) h
      · have k3 := (brk_keeps e _ (fun acc s ts acc' s' r => parOne_keeps e acc s ts acc' s' r) _ _ _ _ _ _ h3).len
        rcases dry_bnd h with h | ⟨_, _, _, _, h⟩
        · exact ps_wet e f 0 _ _ _ (by show 6 * _ + 1 ≤ f; omega) h
        · exact not_dry_inl h
theorem stages_wet (e f k : Nat) (acc : List Tr) (s : St) (ts : List Tok) (hf : 6 * ts.length + 1 ≤ f) (hk : ts.length < k) : ¬ Dry' (stages e f k acc s ts) := by
  induction k generalizing acc s ts with
  | zero => omega
  | succ k ih =>
    simp only [stages]
    split
    · exact not_dry_inl
    · split
      · exact not_dry_bad (by decide) _ _
      · intro h
        rcases dry_bnd h with h | ⟨x, s1, r1, h1, h⟩
        · exact stage_wet _ _ _ _ hf h
        · have := (stage_keeps _ _ _ _ _ _ _ h1).2
          exact ih _ _ _ (by omega) (by omega) h
theorem prog_wet (e f k : Nat) (ts : List Tok) (hf : 6 * ts.length + 1 ≤ f) (hk : ts.length < k) : ¬ Dry' (prog e f k ts) := by
  intro h
  rcases dry_bnd h with h | ⟨x, s1, r1, h1, h⟩
  · exact stage_wet _ _ _ _ hf h
  · have := (stage_keeps _ _ _ _ _ _ _ h1).2
    exact stages_wet _ _ _ _ _ _ (by omega) (by omega) h
end Go.Proofs.YtfngmdebmedkjacGreatDoor.Sx
/- Where a fault of reading stands: at a token, or at the end. -/
namespace Go.Proofs.YtfngmdebmedkjacGreatDoor.Sx
open Go.Proofs.YtfngmdebmedkjacGreatDoor.Tk

def Qt (e : Nat) (r : List Tok) : Prop := ∀ t ∈ r, t.at' ≤ e
def Inn {α : Type} (e : Nat) : Rs α → Prop
  | .inl (_, _, r) => Qt e r
  | .inr (c, p, _) => c ≠ 0 ∧ 0 ≤ p ∧ p ≤ e
theorem Qt.tail {e : Nat} {r : List Tok} (h : Qt e r) : Qt e r.tail := fun t ht => h t (List.mem_of_mem_tail ht)
theorem Qt.rest {e : Nat} {t : Tok} {r : List Tok} (h : Qt e (t :: r)) : Qt e r := fun u hu => h u (by simp [hu])
theorem Qt.place {e : Nat} {r : List Tok} (h : Qt e r) : 0 ≤ place e r ∧ place e r ≤ e := by
  cases r with
  | nil => simp [Sx.place]
  | cons t r => have := h t (by simp); simp only [Sx.place]; omega
theorem Inn.bnd {α β : Type} {e : Nat} {m : Rs α} {k : α → St → List Tok → Rs β} (h : Inn e m) (hk : ∀ x s r, Qt e r → Inn e (k x s r)) : Inn e (bnd m k) := by
  cases m with
  | inl p => exact hk _ _ _ h
  | inr p => exact h
theorem Inn.out {α : Type} {e : Nat} : Inn e (.inr (99, 0, []) : Rs α) := by simp [Inn]
theorem inn_bad {α : Type} {e : Nat} {c : Int} {r : List Tok} (hc : c ≠ 0) (h : Qt e r) : Inn e (bad c e r : Rs α) := ⟨hc, h.place⟩
theorem inn_unfit {α : Type} {e : Nat} {r : List Tok} (h : Qt e r) : Inn e (unfit e r : Rs α) := ⟨by cases r <;> simp [ucode], h.place⟩
theorem inn_skp {e : Nat} {x : List UInt8} {s : St} {r : List Tok} (h : Qt e r) : Inn e (skp e x s r) := by
  unfold skp; split
  · exact h.tail
  · exact inn_unfit h
theorem inn_tokOf {e : Nat} {k : Int} {s : St} {r : List Tok} (h : Qt e r) : Inn e (tokOf e k s r) := by
  cases r with
  | nil => exact inn_unfit h
  | cons t r => simp only [tokOf]; split
                · exact h.rest
                · exact inn_unfit h
theorem inn_nameOf {e : Nat} {s : St} {r : List Tok} (h : Qt e r) : Inn e (nameOf e s r) := (inn_tokOf h).bnd fun _ _ _ h => h
theorem inn_numOf {e : Nat} {s : St} {r : List Tok} (h : Qt e r) : Inn e (numOf e s r) := (inn_tokOf h).bnd fun _ _ _ h => h
theorem inn_ent {e : Nat} {s : St} {r : List Tok} (h : Qt e r) : Inn e (ent e s r) := by
  unfold ent; split
  · exact inn_bad (by decide) h
  · exact h.tail
theorem Inn.join {e : Nat} {op : Int} {x : Tr} {m : Rs Tr} (h : Inn e m) : Inn e (join op x m) := h.bnd fun _ _ _ h => h
theorem inn_pe (e f g : Nat) (x : Tr) (s : St) (ts : List Tok) (h : Qt e ts) : Inn e (pe e f g x s ts) := by
  induction f generalizing g x s ts with
  | zero => exact Inn.out
  | succ f ih =>
    rcases pe_kinds g with rfl | rfl | rfl | rfl | rfl | hg
    · rw [pe_0]
      refine (Inn.bnd (ih _ _ _ _ h) fun x s1 r1 h1 => ?_).bnd fun z s3 r3 h3 => ?_
      · split
        · exact (ih _ _ _ _ h1.tail).join
        · split
          · exact (ih _ _ _ _ h1.tail).join
          · exact h1
      · split
        · exact ⟨by decide, h.place⟩
        · exact h3
    · rw [pe_1]
      exact (ih _ _ _ _ h).bnd fun x s1 r1 h1 => ih _ _ _ _ h1
    · rw [pe_2]
      exact (ih _ _ _ _ h).bnd fun x s1 r1 h1 => ih _ _ _ _ h1
    · rw [pe_4]
      split
      · exact (ih _ _ _ _ h.tail).join.bnd fun x s1 r1 h1 => ih _ _ _ _ h1
      · split
        · exact (ih _ _ _ _ h.tail).join.bnd fun x s1 r1 h1 => ih _ _ _ _ h1
        · exact h
    · rw [pe_5]
      split
      · exact (ih _ _ _ _ h.tail).join.bnd fun x s1 r1 h1 => ih _ _ _ _ h1
      · exact h
    · rw [pe_u _ _ _ _ _ _ hg]
      split
      · exact (inn_ent h).bnd fun _ _ _ h => (ih _ _ _ _ h).bnd fun _ _ _ h => (inn_skp h).bnd fun _ _ _ h => h
      · split
        · exact (inn_ent h).bnd fun _ _ _ h => (ih _ _ _ _ h).bnd fun _ _ _ h => h
        · split
          · exact (inn_numOf h).bnd fun _ _ _ h => h
          · exact (inn_nameOf h).bnd fun _ _ _ h => h
theorem inn_ty (e : Nat) (acc : List UInt8) (s : St) (ts : List Tok) (h : Qt e ts) : Inn e (ty e acc s ts) := by
  induction ts generalizing acc with
  | nil => exact inn_unfit h
  | cons t r ih =>
    simp only [ty]
    split
    · split
      · exact inn_bad (by decide) h
      · exact ih _ h.rest
    · exact (inn_skp h).bnd fun _ _ _ h => h
theorem inn_brkL {σ : Type} (e : Nat) (one : σ → St → List Tok → Rs σ) (h1 : ∀ a s r, Qt e r → Inn e (one a s r)) (k n : Nat) (acc : σ) (s : St) (ts : List Tok) (h : Qt e ts) : Inn e (brkL e one k n acc s ts) := by
  induction k generalizing n acc s ts with
  | zero => exact Inn.out
  | succ k ih =>
    simp only [brkL]
    split
    · split
      · exact inn_bad (by decide) h.tail
      · exact (h1 _ _ _ h.tail).bnd fun _ _ _ h => ih _ _ _ _ h
    · exact h
theorem inn_brk {σ : Type} (e : Nat) (one : σ → St → List Tok → Rs σ) (h1 : ∀ a s r, Qt e r → Inn e (one a s r)) (acc : σ) (s : St) (ts : List Tok) (h : Qt e ts) : Inn e (brk e one acc s ts) := by
  unfold brk
  refine (inn_skp h).bnd fun _ _ _ h => Inn.bnd ?_ fun _ _ _ h => (inn_skp h).bnd fun _ _ _ h => h
  split
  · exact h
  · exact (h1 _ _ _ h).bnd fun _ _ _ h => inn_brkL e one h1 _ _ _ _ _ h
theorem inn_parOne (e : Nat) (acc : List Tr) (s : St) (ts : List Tok) (h : Qt e ts) : Inn e (parOne e acc s ts) :=
  (inn_nameOf h).bnd fun _ _ _ h => (inn_ty _ _ _ _ h).bnd fun _ _ _ h => h
theorem inn_argOne (e f : Nat) (acc : List Tr) (s : St) (ts : List Tok) (h : Qt e ts) : Inn e (argOne e f acc s ts) :=
  (inn_pe _ _ _ _ _ _ h).bnd fun _ _ _ h => h
theorem inn_plainB (e f d : Nat) (A : List UInt8) (s : St) (ts : List Tok) (h : Qt e ts) : Inn e (plainB e f d A s ts) := by
  unfold plainB
  split
  · exact (inn_skp h).bnd fun _ _ _ h => (inn_pe _ _ _ _ _ _ h).bnd fun _ _ _ h => h
  · split
    · exact (inn_pe _ _ _ _ _ _ h).bnd fun _ _ _ h => h
    · split
      · exact (inn_nameOf h).bnd fun _ _ _ h => (inn_ty _ _ _ _ h).bnd fun _ _ _ h => (inn_numOf h).bnd fun _ _ _ h => h
      · split
        · exact (inn_nameOf h).bnd fun _ _ _ h => h
        · split
          · exact (inn_brk _ _ (fun a s r h => inn_argOne _ _ a s r h) _ _ _ h).bnd fun _ _ _ h => h
          · exact h
theorem inn_plain (e f d : Nat) (s : St) (ts : List Tok) (h : Qt e ts) : Inn e (plain e f d s ts) := by
  unfold plain
  split
  · exact inn_plainB _ _ _ _ _ _ h
  · exact (inn_nameOf h).bnd fun _ _ _ h => inn_plainB _ _ _ _ _ _ h
theorem inn_nestA (e f d : Nat) (s : St) (ts : List Tok) (h : Qt e ts) : Inn e (nestA e f d s ts) := by
  unfold nestA
  split
  · exact (inn_nameOf h).bnd fun _ _ _ h => (inn_skp h).bnd fun _ _ _ h => (inn_nameOf h).bnd fun _ _ _ h => h
  · exact (inn_pe _ _ _ _ _ _ h).bnd fun _ _ _ h => h
theorem inn_ps (e f g : Nat) (acc : List Tr) (s : St) (ts : List Tok) (h : Qt e ts) : Inn e (ps e f g acc s ts) := by
  induction f generalizing g acc s ts with
  | zero => exact Inn.out
  | succ f ih =>
    match g with
    | 0 =>
      simp only [ps]
      split
      · exact inn_bad (by decide) h
      · exact (inn_skp h).bnd fun _ _ _ h => (ih _ _ _ _ h).bnd fun _ _ _ h => (inn_skp h).bnd fun _ _ _ h => h
    | 1 =>
      simp only [ps]
      split
      · exact inn_unfit h
      · split
        · exact inn_bad (by decide) h
        · split
          · exact (inn_plain _ _ _ _ _ h.tail).bnd fun _ _ _ h => (inn_skp h).bnd fun _ _ _ h => h
          · refine (inn_nestA _ _ _ _ _ h.tail).bnd fun _ _ _ h => (ih _ _ _ _ h).bnd fun _ _ _ h => Inn.bnd ?_ fun _ _ _ h => h
            split
            · exact (inn_skp h).bnd fun _ _ _ h => ih _ _ _ _ h
            · exact h
    | g + 2 =>
      simp only [ps]
      split
      · exact h
      · exact (ih _ _ _ _ h).bnd fun _ _ _ h => ih _ _ _ _ h
theorem inn_stage (e f : Nat) (s : St) (ts : List Tok) (h : Qt e ts) : Inn e (stage e f s ts) :=
  (inn_skp h).bnd fun _ _ _ h => (inn_nameOf h).bnd fun _ _ _ h => (inn_brk _ _ (fun a s r h => inn_parOne _ a s r h) _ _ _ h).bnd fun _ _ _ h => (inn_ps _ _ _ _ _ _ h).bnd fun _ _ _ h => h
theorem inn_stages (e f k : Nat) (acc : List Tr) (s : St) (ts : List Tok) (h : Qt e ts) : Inn e (stages e f k acc s ts) := by
  induction k generalizing acc s ts with
  | zero => exact Inn.out
  | succ k ih =>
    simp only [stages]
    split
    · exact h
    · split
      · exact inn_bad (by decide) h
      · exact (inn_stage _ _ _ _ h).bnd fun _ _ _ h => ih _ _ _ h
theorem inn_prog (e f k : Nat) (ts : List Tok) (h : Qt e ts) : Inn e (prog e f k ts) :=
  (inn_stage _ _ _ _ h).bnd fun _ _ _ h => inn_stages _ _ _ _ _ _ h
end Go.Proofs.YtfngmdebmedkjacGreatDoor.Sx

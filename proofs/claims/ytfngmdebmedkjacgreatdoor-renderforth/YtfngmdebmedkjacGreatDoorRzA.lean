import Derived.Test.YtfngmdebmedkjacGreatDoorRxA
/- Printed texts are scanned piece by piece: what tokens a text that is put together of words, signs and blanks has. Plain. -/
namespace Go.Proofs.YtfngmdebmedkjacGreatDoor.Rb
open Go.Proofs.YtfngmdebmedkjacGreatDoor Go.Proofs.YtfngmdebmedkjacGreatDoor.Sx Go.Proofs.YtfngmdebmedkjacGreatDoor.Tk

/-- A token without its place. -/
structure Shp where
  kind : Int
  text : List UInt8
  n : Int
def shp (t : Tok) : Shp := ⟨t.kind, t.text, t.n⟩

/-- The tokens from a place on at which blanks may stand. -/
def sc (f p : Nat) (l : List UInt8) : List Tok × Int × Int := tl f (p + skip false l) (l.drop (skip false l))
theorem sc_nil (f p : Nat) : sc f p [] = ([], 0, 0) := by simp [sc, skip, tl_nil]
theorem skip_blank (b : UInt8) (l : List UInt8) (h : isB b = true) : skip false (b :: l) = skip false l + 1 := by
  unfold isB at h
  simp only [Bool.or_eq_true, beq_iff_eq] at h
  simp only [skip]
  by_cases h1 : b.toNat = 10
  · rw [if_pos h1]
  · have h2 : ¬ b.toNat = 35 := by omega
    have h3 : isB b = true := by simp [isB]; omega
    rw [if_neg h1, if_neg h2, if_neg (by simp [h3])]
theorem sc_blank (f p : Nat) (b : UInt8) (l : List UInt8) (h : isB b = true) : sc f p (b :: l) = sc f (p + 1) l := by
  unfold sc
  rw [skip_blank b l h]
  simp only [List.drop_succ_cons]
  rw [show p + (skip false l + 1) = p + 1 + skip false l by omega]
theorem sc_tok (f p : Nat) (w r : List UInt8) (k n : Int) (hw : w ≠ []) (h0 : skip false (w ++ r) = 0) (ht : tok (w ++ r) = ⟨0, k, w.length, n⟩) :
    sc (f + 1) p (w ++ r) = comb [⟨k, p, w, n⟩] (sc f (p + w.length) r) := by
  unfold sc
  rw [h0]
  have hne : w ++ r ≠ [] := by simp [hw]
  simp only [List.drop_zero, Nat.add_zero]
  rw [tok_at (w ++ r) p f hne (by rw [ht])]
  rw [ht]
  dsimp only
  have e1 : (w ++ r).drop w.length = r := by simp
  have e2 : (w ++ r).drop (w.length + skip false r) = r.drop (skip false r) := by rw [← List.drop_drop, e1]
  have e3 : (w ++ r).take w.length = w := by simp
  rw [e1, e2, e3, Nat.add_assoc]
  unfold comb
  rfl
theorem comb_comb (a b : List Tok) (r : List Tok × Int × Int) : comb a (comb b r) = comb (a ++ b) r := by
  unfold comb
  by_cases h : r.2.1 = 0
  · simp [h]
  · simp [h]

/-- No letter, no digit, no '='. -/
def soft : List UInt8 → Bool
  | [] => true
  | b :: _ => !isL b && !isD b && b != 61
theorem soft_app {m : List UInt8} (r : List UInt8) (h : m ≠ []) : soft (m ++ r) = soft m := by
  cases m with
  | nil => exact absurd rfl h
  | cons b t => rfl

/-- A text has these tokens, whatever comes behind (if b: whatever soft). -/
structure Rd (b : Bool) (l : List UInt8) (S : List Shp) : Prop where
  len : S.length ≤ l.length
  go : ∀ r : List UInt8, (b = true → soft r = true) → ∀ p f : Nat, ∃ ts : List Tok, ts.map shp = S ∧ sc (f + S.length) p (l ++ r) = comb ts (sc f (p + l.length) r)
theorem Rd.up {l : List UInt8} {S : List Shp} (h : Rd false l S) (b : Bool) : Rd b l S := ⟨h.len, fun r _ => h.go r (by simp)⟩
theorem Rd.nil : Rd false [] [] := ⟨Nat.le_refl _, fun r _ p f => ⟨[], rfl, by
  simp only [List.length_nil, Nat.add_zero, List.nil_append]
  exact (comb_nil _ (tl_nofault _ _ _)).symm⟩⟩
theorem Rd.app {b c : Bool} {l m : List UInt8} {S T : List Shp} (h : Rd b l S) (h' : Rd c m T) (hs : b = true → m ≠ [] ∧ soft m = true) : Rd c (l ++ m) (S ++ T) := by
  refine ⟨by have h1 := h.len; have h2 := h'.len; simp only [List.length_append]; omega, fun r hr p f => ?_⟩
  obtain ⟨u, hu, e2⟩ := h'.go r hr (p + l.length) f
  obtain ⟨t, ht, e1⟩ := h.go (m ++ r) (fun hb => by rw [soft_app r (hs hb).1]; exact (hs hb).2) p (f + T.length)
  refine ⟨t ++ u, by rw [List.map_append, ht, hu], ?_⟩
  rw [List.append_assoc, show f + (S ++ T).length = f + T.length + S.length by simp; omega, e1, e2, comb_comb]
  simp [Nat.add_assoc]
theorem Rd.app0 {c : Bool} {l m : List UInt8} {S T : List Shp} (h : Rd false l S) (h' : Rd c m T) : Rd c (l ++ m) (S ++ T) := h.app h' (by simp)
theorem Rd.app1 {c : Bool} {l m : List UInt8} {S T : List Shp} {b : UInt8} (h : Rd true l S) (h' : Rd c (b :: m) T) (hb : soft [b] = true) : Rd c (l ++ (b :: m)) (S ++ T) := h.app h' (fun _ => ⟨by simp, hb⟩)
theorem Rd.blank (b : UInt8) (h : isB b = true) : Rd false [b] [] := ⟨by simp, fun r _ p f => ⟨[], rfl, by
  simp only [List.length_nil, Nat.add_zero, List.singleton_append, List.length_singleton]
  rw [sc_blank f p b r h]
  exact (comb_nil _ (tl_nofault _ _ _)).symm⟩⟩
theorem Rd.blanks (l : List UInt8) (h : ∀ b ∈ l, isB b = true) : Rd false l [] := by
  induction l with
  | nil => exact Rd.nil
  | cons b t ih => exact (Rd.blank b (h b (by simp))).app0 (ih fun x hx => h x (by simp [hx]))
theorem Rd.one {b : Bool} {w : List UInt8} {k n : Int} (hw : w ≠ []) (h0 : ∀ r, skip false (w ++ r) = 0) (ht : ∀ r, (b = true → soft r = true) → tok (w ++ r) = ⟨0, k, w.length, n⟩) : Rd b w [⟨k, w, n⟩] :=
  ⟨List.length_pos_iff.2 hw, fun r hr p f => ⟨[⟨k, p, w, n⟩], rfl, by rw [List.length_singleton]; exact sc_tok f p w r k n hw (h0 r) (ht r hr)⟩⟩

theorem soft_run {r : List UInt8} (h : soft r = true) : run r = 0 := by
  cases r with
  | nil => rfl
  | cons b t =>
    simp only [soft, Bool.and_eq_true, Bool.not_eq_true'] at h
    simp [run, h.1.1, h.1.2]
theorem run_app (w r : List UInt8) (h : run w = w.length) : run (w ++ r) = w.length + run r := by
  induction w with
  | nil => simp
  | cons b t ih =>
    simp only [run, List.cons_append, List.length_cons] at h ⊢
    have := run_le t
    by_cases hb : (isL b || isD b) = true
    · rw [if_pos hb] at h ⊢
      rw [ih (by omega)]; omega
    · rw [if_neg hb] at h; omega
theorem skip_word (w r : List UInt8) (hw : w ≠ []) (h : run w = w.length) : skip false (w ++ r) = 0 := by
  cases w with
  | nil => exact absurd rfl hw
  | cons b t =>
    simp only [run, List.length_cons] at h
    by_cases hb : (isL b || isD b) = true
    · simp only [List.cons_append, skip]
      have hn : 48 ≤ b.toNat := by simp [isL, isD] at hb; omega
      rw [if_neg (by omega), if_neg (by omega), if_pos (by simp [isB]; omega)]
    · rw [if_neg hb] at h; omega
theorem tok_word (w r : List UInt8) (hw : w ≠ []) (h : run w = w.length) (hr : soft r = true) : tok (w ++ r) = if isD (w.headD 0) then numAns w else nameAns w := by
  have hl : 0 < w.length := List.length_pos_iff.2 hw
  have e : run (w ++ r) = w.length := by rw [run_app w r h, soft_run hr]; rfl
  unfold tok
  rw [e, if_pos hl]
  have e1 : (w ++ r).headD 0 = w.headD 0 := by cases w with
    | nil => exact absurd rfl hw
    | cons b t => rfl
  rw [e1, List.take_append_of_le_length (Nat.le_refl _), List.take_length]
theorem Rd.name {w : List UInt8} (h : Tk.isN w = true) : Rd true w [⟨2, w, 0⟩] := by
  simp only [Tk.isN, Bool.and_eq_true, decide_eq_true_eq, Bool.not_eq_true'] at h
  obtain ⟨⟨⟨⟨h1, h2⟩, h3⟩, h4⟩, h5⟩ := h
  have hw : w ≠ [] := by intro e; subst e; simp at h1
  refine Rd.one hw (fun r => skip_word w r hw h4) (fun r hr => ?_)
  rw [tok_word w r hw h4 (hr rfl), if_neg (by simp [isL, isD] at h3 ⊢; omega)]
  unfold nameAns
  rw [if_neg (by simp [h5]), if_neg (by omega)]
theorem Rd.word {w : List UInt8} (h : isW w = true) (h4 : run w = w.length) (h3 : isD (w.headD 0) = false) (hw : w ≠ []) : Rd true w [⟨1, w, 0⟩] := by
  refine Rd.one hw (fun r => skip_word w r hw h4) (fun r hr => ?_)
  rw [tok_word w r hw h4 (hr rfl), if_neg (by rw [h3]; exact Bool.false_ne_true)]
  unfold nameAns
  rw [if_pos h]
theorem Rd.sign {b : UInt8} (h : signs.contains b = true) (h1 : b ≠ 61) : Rd false [b] [⟨4, [b], 0⟩] := by
  have hb : isL b = false ∧ isD b = false ∧ isB b = false ∧ b.toNat ≠ 35 ∧ b.toNat ≠ 10 := by
    simp [signs] at h
    rcases h with rfl | rfl | rfl | rfl | rfl | rfl | rfl | rfl | rfl | rfl | rfl <;> decide
  refine Rd.one (by simp) (fun r => ?_) (fun r _ => ?_)
  · simp only [List.singleton_append, skip]
    rw [if_neg hb.2.2.2.2, if_neg hb.2.2.2.1, if_pos (by simp [hb.2.2.1])]
  · unfold tok
    have e : run ([b] ++ r) = 0 := by simp [run, hb.1, hb.2.1]
    rw [e, if_neg (by omega)]
    simp only [List.singleton_append]
    unfold signAns
    split
    · rename_i q; simp at q
    · rename_i q; simp at q; exact absurd q.1 h1
    · rename_i q; simp at q; obtain ⟨rfl, rfl⟩ := q; rw [if_pos h]; rfl
theorem Rd.eq1 : Rd true [61] [⟨4, [61], 0⟩] := by
  refine Rd.one (by simp) (fun r => ?_) (fun r hr => ?_)
  · simp [skip, isB]
  · have hr := hr rfl
    cases r with
    | nil => rfl
    | cons b t =>
      simp only [soft, Bool.and_eq_true, bne_iff_ne] at hr
      unfold tok
      have e : run ([61] ++ b :: t) = 0 := by simp [run, isL, isD]
      rw [e, if_neg (by omega)]
      simp only [List.singleton_append]
      unfold signAns
      split
      · rename_i q; simp at q
      · rename_i q; simp at q; exact absurd q.1 hr.2
      · rename_i q; simp at q; obtain ⟨rfl, rfl⟩ := q; rw [if_pos (by decide)]; rfl
theorem Rd.eq2 : Rd false [61, 61] [⟨4, [61, 61], 0⟩] := by
  refine Rd.one (by simp) (fun r => ?_) (fun r _ => ?_)
  · simp [skip, isB]
  · unfold tok
    have e : run ([61, 61] ++ r) = 0 := by simp [run, isL, isD]
    rw [e, if_neg (by omega)]
    rfl

/-! Numbers. -/
theorem val_app (n : Int) (l m : List UInt8) : val n (l ++ m) = (val n l).bind fun k => val k m := by
  induction l generalizing n with
  | nil => rfl
  | cons b t ih =>
    simp only [List.cons_append, val]
    by_cases hb : isD b = true
    · rw [if_pos hb, if_pos hb, ih]
    · rw [if_neg hb, if_neg hb]; rfl
theorem dig_of (d : Nat) (h : d < 10) : isD (UInt8.ofNat (48 + d)) = true ∧ (UInt8.ofNat (48 + d)).toNat = 48 + d := by
  have e : (UInt8.ofNat (48 + d)).toNat = 48 + d := by simp; omega
  exact ⟨by unfold isD; rw [e]; simp; omega, e⟩
theorem dec_val (u : Nat) : val 0 (Lib.decDigits u) = some (u : Int) ∧ run (Lib.decDigits u) = (Lib.decDigits u).length ∧ isD ((Lib.decDigits u).headD 0) = true ∧ Lib.decDigits u ≠ [] ∧ (0 < u → (Lib.decDigits u).head? ≠ some 48) := by
  induction u using Nat.strongRecOn with
  | _ u ih =>
    rw [Lib.decDigits]
    by_cases h : u < 10
    · rw [dif_pos h]
      obtain ⟨h1, h2⟩ := dig_of u h
      generalize UInt8.ofNat (48 + u) = c at *
      refine ⟨by simp [val, h1, h2]; omega, by simp [run, h1], by simpa using h1, by simp, fun h0 hh => ?_⟩
      simp at hh
      rw [hh] at h2
      simp at h2
      omega
    · rw [dif_neg h]
      obtain ⟨a1, a2, a3, a4, a5⟩ := ih (u / 10) (by omega)
      obtain ⟨h1, h2⟩ := dig_of (u % 10) (by omega)
      generalize UInt8.ofNat (48 + u % 10) = c at *
      have hh : ∀ x : List UInt8, x ≠ [] → ∀ y : List UInt8, (x ++ y).headD 0 = x.headD 0 ∧ (x ++ y).head? = x.head? := by
        intro x hx y; cases x with
        | nil => exact absurd rfl hx
        | cons b t => exact ⟨rfl, rfl⟩
      refine ⟨?_, ?_, by rw [(hh _ a4 _).1]; exact a3, by simp, fun _ => by rw [(hh _ a4 _).2]; exact a5 (by omega)⟩
      · rw [val_app, a1]
        simp [val, h1, h2]
        omega
      · rw [run_app _ _ a2]; simp [run, h1]
theorem dec_len (u : Nat) (h : u < 1000000000000000000) : (Lib.decDigits u).length ≤ 18 := by
  rw [Lib.decDigits_length]
  apply Nat.le_of_not_lt
  intro hc
  have : ∀ k u, k < Lib.nDigits u → 10 ^ k ≤ u ∨ u = 0 := by
    intro k
    induction k with
    | zero => intro u _; simp; omega
    | succ k ih =>
      intro u hu
      by_cases h10 : u < 10
      · rw [Lib.nDigits_small h10] at hu; omega
      · rw [Lib.nDigits_big h10] at hu
        have := ih (u / 10) (by omega)
        rw [Nat.pow_succ]
        omega
  have := this 18 u hc
  rcases this with h1 | h1
  · have : (10 : Nat) ^ 18 = 1000000000000000000 := by decide
    omega
  · subst h1; rw [Lib.nDigits_small (by omega)] at hc; omega
theorem Rd.num {k : Int} (h0 : 0 ≤ k) (h1 : k < 1000000000000000000) : Rd true (Rn.digs k) [⟨3, Rn.digs k, k⟩] := by
  have e : Rn.digs k = Lib.decDigits k.toNat := by unfold Rn.digs Lib.itoa; rw [if_neg (by omega)]
  rw [e]
  obtain ⟨a1, a2, a3, a4, a5⟩ := dec_val k.toNat
  have hl := dec_len k.toNat (by omega)
  refine Rd.one a4 (fun r => skip_word _ r a4 a2) (fun r hr => ?_)
  rw [tok_word _ r a4 a2 (hr rfl), if_pos a3]
  unfold numAns Tk.numOf
  have hz : ¬ (18 < (Lib.decDigits k.toNat).length ∨ (1 < (Lib.decDigits k.toNat).length ∧ (Lib.decDigits k.toNat).head? = some 48)) := by
    rintro (h | ⟨h, h'⟩)
    · omega
    · by_cases hk : 0 < k.toNat
      · exact a5 hk h'
      · rw [show k.toNat = 0 by omega, Lib.decDigits_one (by omega)] at h; simp at h
  rw [if_neg hz, a1]
  simp only [show ((k.toNat : Nat) : Int) = k by omega]

/-- A whole text. -/
theorem Rd.scan {l : List UInt8} {S : List Shp} {b : Bool} (h : Rd b l S) (hl : l.length ≤ 12000) : ∃ ts : List Tok, ts.map shp = S ∧ scan l = (ts, 0, 0) := by
  have hS := h.len
  obtain ⟨ts, h1, h2⟩ := h.go [] (fun _ => rfl) 0 (l.length + 1 - S.length)
  refine ⟨ts, h1, ?_⟩
  unfold Tk.scan
  rw [if_neg (by omega)]
  have : sc (l.length + 1) 0 l = tl (l.length + 1) (skip false l) (l.drop (skip false l)) := by unfold sc; rw [Nat.zero_add]
  rw [← this]
  rw [List.append_nil, show l.length + 1 - S.length + S.length = l.length + 1 by omega, sc_nil] at h2
  rw [h2]
  simp [comb]
end Go.Proofs.YtfngmdebmedkjacGreatDoor.Rb


/- Printed expressions are read as they were: the reader's answer at the tokens of an expression. Plain. -/
namespace Go.Proofs.YtfngmdebmedkjacGreatDoor.Rb
open Go.Proofs.YtfngmdebmedkjacGreatDoor Go.Proofs.YtfngmdebmedkjacGreatDoor.Sx Go.Proofs.YtfngmdebmedkjacGreatDoor.Tk

/-- From some number on the answer is this. -/
def Ev {α : Type} (m : Nat → α) (v : α) : Prop := ∃ F, ∀ f, F ≤ f → m f = v
theorem Ev.same {α : Type} {m : Nat → α} {v : α} (h : ∀ f, m f = v) : Ev m v := ⟨0, fun f _ => h f⟩
theorem Ev.succ {α : Type} {m : Nat → α} {v : α} (h : ∃ F, ∀ f, F ≤ f → m (f + 1) = v) : Ev m v := by
  obtain ⟨F, hF⟩ := h
  refine ⟨F + 1, fun f hf => ?_⟩
  obtain ⟨g, rfl⟩ : ∃ g, f = g + 1 := ⟨f - 1, by omega⟩
  exact hF g (by omega)

def st (s : St) (k : Nat) : St := { s with parts := s.parts + k }
theorem st_st (s : St) (j k : Nat) : st (st s j) k = st s (j + k) := by simp [st, Nat.add_assoc]
theorem st_part (s : St) (j : Nat) : (st s j).part = st s (j + 1) := rfl
def sg (w : List UInt8) : Shp := ⟨4, w, 0⟩
def kw (w : List UInt8) : Shp := ⟨1, w, 0⟩
def nm (w : List UInt8) : Shp := ⟨2, w, 0⟩
def nu (k : Int) : Shp := ⟨3, Rn.digs k, k⟩

theorem map_app {S T : List Shp} {ts : List Tok} (h : ts.map shp = S ++ T) : ∃ a b, ts = a ++ b ∧ a.map shp = S ∧ b.map shp = T := by
  obtain ⟨a, b, h1, h2, h3⟩ := List.map_eq_append_iff.1 h
  exact ⟨a, b, h1, h2, h3⟩
theorem map_one {x : Shp} {ts : List Tok} (h : ts.map shp = [x]) : ∃ t, ts = [t] ∧ shp t = x := by
  match ts, h with
  | [t], h => exact ⟨t, rfl, by simpa using h⟩
theorem map_cons {x : Shp} {S : List Shp} {ts : List Tok} (h : ts.map shp = x :: S) : ∃ t u, ts = t :: u ∧ shp t = x ∧ u.map shp = S := by
  match ts, h with
  | t :: u, h => simp at h; exact ⟨t, u, rfl, h.1, h.2⟩
theorem shp_text {t : Tok} {k : Int} {w : List UInt8} {n : Int} (h : shp t = ⟨k, w, n⟩) : t.text = w ∧ t.kind = k ∧ t.n = n := by
  unfold shp at h; simp at h; exact ⟨h.2.1, h.1, h.2.2⟩

def C3 (e : Nat) (S : List Shp) (x : Tr) (k o : Nat) : Prop := ∀ s : St, s.opn + o ≤ 60 → ∀ (ts r : List Tok) (y : Tr), ts.map shp = S → Ev (fun f => pe e f 3 y s (ts ++ r)) (.inl (x, st s k, r))
def C2 (e : Nat) (S : List Shp) (x : Tr) (k o : Nat) : Prop := ∀ s : St, s.opn + o ≤ 60 → ∀ (ts r : List Tok) (y : Tr) (v : Rs Tr), ts.map shp = S → Ev (fun f => pe e f 5 x (st s k) r) v → Ev (fun f => pe e f 2 y s (ts ++ r)) v
def C1 (e : Nat) (S : List Shp) (x : Tr) (k o : Nat) : Prop := ∀ s : St, s.opn + o ≤ 60 → ∀ (ts r : List Tok) (y : Tr) (v : Rs Tr), ts.map shp = S → txt r ≠ [42] → Ev (fun f => pe e f 4 x (st s k) r) v → Ev (fun f => pe e f 1 y s (ts ++ r)) v
/-- What may stand behind an expression. -/
def fol (r : List Tok) : Prop := txt r ≠ [42] ∧ txt r ≠ [43] ∧ txt r ≠ [45] ∧ txt r ≠ [60] ∧ txt r ≠ [61, 61]
def C0 (e : Nat) (S : List Shp) (x : Tr) (k o : Nat) : Prop := k ≤ 20 → ∀ s : St, s.opn + o ≤ 60 → ∀ (ts r : List Tok) (y : Tr), ts.map shp = S → fol r → Ev (fun f => pe e f 0 y s (ts ++ r)) (.inl (x, st s k, r))

theorem C3.more {e : Nat} {S : List Shp} {x : Tr} {k o o' : Nat} (h : C3 e S x k o) (ho : o ≤ o') : C3 e S x k o' := fun s hs => h s (by omega)
theorem C2.more {e : Nat} {S : List Shp} {x : Tr} {k o o' : Nat} (h : C2 e S x k o) (ho : o ≤ o') : C2 e S x k o' := fun s hs => h s (by omega)
theorem C1.more {e : Nat} {S : List Shp} {x : Tr} {k o o' : Nat} (h : C1 e S x k o) (ho : o ≤ o') : C1 e S x k o' := fun s hs => h s (by omega)
theorem C0.more {e : Nat} {S : List Shp} {x : Tr} {k o o' : Nat} (h : C0 e S x k o) (ho : o ≤ o') : C0 e S x k o' := fun hk s hs => h hk s (by omega)

theorem ev5 (e : Nat) (x : Tr) (s : St) (r : List Tok) (h : txt r ≠ [42]) : Ev (fun f => pe e f 5 x s r) (.inl (x, s, r)) := Ev.succ ⟨0, fun f _ => by show pe e (f + 1) 5 x s r = _; rw [pe_5, if_neg h]⟩
theorem ev4 (e : Nat) (x : Tr) (s : St) (r : List Tok) (h : txt r ≠ [43]) (h' : txt r ≠ [45]) : Ev (fun f => pe e f 4 x s r) (.inl (x, s, r)) := Ev.succ ⟨0, fun f _ => by show pe e (f + 1) 4 x s r = _; rw [pe_4, if_neg h, if_neg h']⟩

theorem C3.two {e : Nat} {S : List Shp} {x : Tr} {k o : Nat} (h : C3 e S x k o) : C2 e S x k o := by
  intro s hs ts r y v hS hv
  obtain ⟨F, hF⟩ := h s hs ts r d0 hS
  obtain ⟨G, hG⟩ := hv
  refine Ev.succ ⟨max F G, fun f hf => ?_⟩
  show pe e (f + 1) 2 y s (ts ++ r) = v
  have e1 := hF f (by omega)
  have e2 := hG f (by omega)
  dsimp only at e1 e2
  rw [pe_2, e1]
  exact e2
theorem C2.one {e : Nat} {S : List Shp} {x : Tr} {k o : Nat} (h : C2 e S x k o) : C1 e S x k o := by
  intro s hs ts r y v hS hr hv
  obtain ⟨F, hF⟩ := h s hs ts r d0 _ hS (ev5 e x (st s k) r hr)
  obtain ⟨G, hG⟩ := hv
  refine Ev.succ ⟨max F G, fun f hf => ?_⟩
  show pe e (f + 1) 1 y s (ts ++ r) = v
  have e1 := hF f (by omega)
  have e2 := hG f (by omega)
  dsimp only at e1 e2
  rw [pe_1, e1]
  exact e2
theorem C1.zero {e : Nat} {S : List Shp} {x : Tr} {k o : Nat} (h : C1 e S x k o) : C0 e S x k o := by
  intro hk s hs ts r y hS hr
  obtain ⟨h1, h2, h3, h4, h5⟩ := hr
  obtain ⟨F, hF⟩ := h s hs ts r d0 _ hS h1 (ev4 e x (st s k) r h2 h3)
  refine Ev.succ ⟨F, fun f hf => ?_⟩
  show pe e (f + 1) 0 y s (ts ++ r) = _
  have e1 := hF f hf
  dsimp only at e1
  rw [pe_0, e1]
  simp only [bnd]
  rw [if_neg h4, if_neg h5]
  simp only
  rw [if_neg (by simp [st]; omega)]
theorem C0.brk {e : Nat} {S : List Shp} {x : Tr} {k o : Nat} (h : C0 e S x k o) (hk : k ≤ 20) : C3 e ([sg [40]] ++ S ++ [sg [41]]) x k (o + 1) := by
  intro s hs ts r y hS
  obtain ⟨u, c, rfl, hu, hc⟩ := map_app hS
  obtain ⟨a, b, rfl, ha, hb⟩ := map_app hu
  obtain ⟨t, rfl, ht⟩ := map_one ha
  obtain ⟨t', rfl, ht'⟩ := map_one hc
  obtain ⟨t1, t2, t3⟩ := shp_text ht
  obtain ⟨t1', t2', t3'⟩ := shp_text ht'
  have hf : fol (t' :: r) := by simp [fol, txt, t1']
  obtain ⟨F, hF⟩ := h hk { s with opn := s.opn + 1 } (by show s.opn + 1 + o ≤ 60; omega) b (t' :: r) d0 hb hf
  refine Ev.succ ⟨F, fun f hf => ?_⟩
  show pe e (f + 1) 3 y s ([t] ++ b ++ [t'] ++ r) = _
  have e1 := hF f hf
  dsimp only at e1
  rw [pe_u e f 3 y s _ (Or.inl rfl)]
  simp only [List.cons_append, List.append_assoc, List.nil_append]
  rw [if_pos (by simp [txt, t1])]
  simp only [ent]
  rw [if_neg (by omega)]
  simp only [bnd, List.tail_cons]
  rw [e1]
  simp [skp, txt, t1', st, St.shut]
theorem C3.neg {e : Nat} {S : List Shp} {x : Tr} {k o : Nat} (h : C3 e S x k o) : C3 e ([sg [45]] ++ S) (tE 3 [] 0 [x]) (k + 1) (o + 1) := by
  intro s hs ts r y hS
  obtain ⟨a, b, rfl, ha, hb⟩ := map_app hS
  obtain ⟨t, rfl, ht⟩ := map_one ha
  obtain ⟨t1, t2, t3⟩ := shp_text ht
  obtain ⟨F, hF⟩ := h { s with opn := s.opn + 1 } (by show s.opn + 1 + o ≤ 60; omega) b r d0 hb
  refine Ev.succ ⟨F, fun f hf => ?_⟩
  show pe e (f + 1) 3 y s ([t] ++ b ++ r) = _
  have e1 := hF f hf
  dsimp only at e1
  rw [pe_u e f 3 y s _ (Or.inl rfl)]
  simp only [List.cons_append, List.nil_append]
  rw [if_neg (by simp [txt, t1]), if_pos (by simp [txt, t1])]
  simp only [ent]
  rw [if_neg (by omega)]
  simp only [bnd, List.tail_cons]
  rw [e1]
  simp [st, St.shut, St.part, Nat.add_assoc]
theorem C3.num (e : Nat) (k : Int) (hk : Rn.digs k ≠ [40] ∧ Rn.digs k ≠ [45]) : C3 e [nu k] (tE 1 [] k []) 1 0 := by
  intro s hs ts r y hS
  obtain ⟨t, rfl, ht⟩ := map_one hS
  obtain ⟨t1, t2, t3⟩ := shp_text ht
  refine Ev.succ ⟨0, fun f hf => ?_⟩
  show pe e (f + 1) 3 y s ([t] ++ r) = _
  rw [pe_u e f 3 y s _ (Or.inl rfl)]
  simp only [List.singleton_append]
  rw [if_neg (by simp [txt, t1, hk.1]), if_neg (by simp [txt, t1, hk.2]), if_pos (by simp [hasKind, t2])]
  simp [Sx.numOf, tokOf, t2, t3, bnd, st, St.part]
theorem C3.nam (e : Nat) (w : List UInt8) (hk : w ≠ [40] ∧ w ≠ [45]) : C3 e [nm w] (tE 2 w 0 []) 1 0 := by
  intro s hs ts r y hS
  obtain ⟨t, rfl, ht⟩ := map_one hS
  obtain ⟨t1, t2, t3⟩ := shp_text ht
  refine Ev.succ ⟨0, fun f hf => ?_⟩
  show pe e (f + 1) 3 y s ([t] ++ r) = _
  rw [pe_u e f 3 y s _ (Or.inl rfl)]
  simp only [List.singleton_append]
  rw [if_neg (by simp [txt, t1, hk.1]), if_neg (by simp [txt, t1, hk.2]), if_neg (by simp [hasKind, t2])]
  simp [nameOf, tokOf, t1, t2, bnd, st, St.part]
theorem C2.mul {e : Nat} {S T : List Shp} {x y : Tr} {k k' o : Nat} (h : C2 e S x k o) (h' : C3 e T y k' o) : C2 e (S ++ [sg [42]] ++ T) (tE 6 [] 0 [x, y]) (k + k' + 1) o := by
  intro s hs ts r z v hS hv
  obtain ⟨u, c, rfl, hu, hc⟩ := map_app hS
  obtain ⟨a, b, rfl, ha, hb⟩ := map_app hu
  obtain ⟨t, rfl, ht⟩ := map_one hb
  obtain ⟨t1, t2, t3⟩ := shp_text ht
  rw [List.append_assoc, List.append_assoc]
  refine h s hs a _ z v ha ?_
  obtain ⟨F, hF⟩ := h' (st s k) hs c r d0 hc
  obtain ⟨G, hG⟩ := hv
  refine Ev.succ ⟨max F G, fun f hf => ?_⟩
  show pe e (f + 1) 5 x (st s k) ([t] ++ (c ++ r)) = v
  have e1 := hF f (by omega)
  have e2 := hG f (by omega)
  dsimp only at e1 e2
  rw [pe_5, if_pos (by simp [txt, t1])]
  simp only [List.singleton_append, List.tail_cons, join]
  rw [e1, st_st]
  simp only [bnd, st_part]
  exact e2
theorem C1.add {e : Nat} {S T : List Shp} {x y : Tr} {k k' o : Nat} {op : Int} {b : UInt8} (hb : op = 4 ∧ b = 43 ∨ op = 5 ∧ b = 45) (h : C1 e S x k o) (h' : C2 e T y k' o) : C1 e (S ++ [sg [b]] ++ T) (tE op [] 0 [x, y]) (k + k' + 1) o := by
  intro s hs ts r z v hS hr hv
  obtain ⟨u, c, rfl, hu, hc⟩ := map_app hS
  obtain ⟨a, b', rfl, ha, hb'⟩ := map_app hu
  obtain ⟨t, rfl, ht⟩ := map_one hb'
  obtain ⟨t1, t2, t3⟩ := shp_text ht
  rw [List.append_assoc, List.append_assoc]
  refine h s hs a _ z v ha (by rcases hb with ⟨_, rfl⟩ | ⟨_, rfl⟩ <;> simp [txt, t1]) ?_
  obtain ⟨F, hF⟩ := h' (st s k) hs c r d0 _ hc (ev5 e y _ r hr)
  obtain ⟨G, hG⟩ := hv
  refine Ev.succ ⟨max F G, fun f hf => ?_⟩
  show pe e (f + 1) 4 x (st s k) ([t] ++ (c ++ r)) = v
  have e1 := hF f (by omega)
  have e2 := hG f (by omega)
  dsimp only at e1 e2
  rw [pe_4]
  rcases hb with ⟨rfl, rfl⟩ | ⟨rfl, rfl⟩
  · rw [if_pos (by simp [txt, t1])]
    simp only [List.singleton_append, List.tail_cons, join]
    rw [e1, st_st]
    simp only [bnd, st_part]
    exact e2
  · rw [if_neg (by simp [txt, t1]), if_pos (by simp [txt, t1])]
    simp only [List.singleton_append, List.tail_cons, join]
    rw [e1, st_st]
    simp only [bnd, st_part]
    exact e2
theorem C0.cmp {e : Nat} {S T : List Shp} {x y : Tr} {k k' o : Nat} {op : Int} {b : List UInt8} (hb : op = 7 ∧ b = [60] ∨ op = 8 ∧ b = [61, 61]) (h : C1 e S x k o) (h' : C1 e T y k' o) : C0 e (S ++ [sg b] ++ T) (tE op [] 0 [x, y]) (k + k' + 1) o := by
  intro hk s hs ts r z hS hr
  obtain ⟨u, c, rfl, hu, hc⟩ := map_app hS
  obtain ⟨a, b', rfl, ha, hb'⟩ := map_app hu
  obtain ⟨t, rfl, ht⟩ := map_one hb'
  obtain ⟨t1, t2, t3⟩ := shp_text ht
  obtain ⟨h1, h2, h3, h4, h5⟩ := hr
  rw [List.append_assoc, List.append_assoc]
  obtain ⟨F, hF⟩ := h s hs a ([t] ++ (c ++ r)) d0 _ ha (by rcases hb with ⟨_, rfl⟩ | ⟨_, rfl⟩ <;> simp [txt, t1]) (ev4 e x _ _ (by rcases hb with ⟨_, rfl⟩ | ⟨_, rfl⟩ <;> simp [txt, t1]) (by rcases hb with ⟨_, rfl⟩ | ⟨_, rfl⟩ <;> simp [txt, t1]))
  obtain ⟨G, hG⟩ := h' (st s k) hs c r d0 _ hc h1 (ev4 e y _ r h2 h3)
  refine Ev.succ ⟨max F G, fun f hf => ?_⟩
  show pe e (f + 1) 0 z s (a ++ ([t] ++ (c ++ r))) = _
  have e1 := hF f (by omega)
  have e2 := hG f (by omega)
  dsimp only at e1 e2
  rw [pe_0, e1]
  simp only [bnd]
  rcases hb with ⟨rfl, rfl⟩ | ⟨rfl, rfl⟩
  · rw [if_pos (by simp [txt, t1])]
    simp only [List.singleton_append, List.tail_cons, join]
    rw [e2, st_st]
    simp only [bnd, st_part]
    rw [if_neg (by simp [st]; omega)]
  · rw [if_neg (by simp [txt, t1]), if_pos (by simp [txt, t1])]
    simp only [List.singleton_append, List.tail_cons, join]
    rw [e2, st_st]
    simp only [bnd, st_part]
    rw [if_neg (by simp [st]; omega)]
end Go.Proofs.YtfngmdebmedkjacGreatDoor.Rb


/- Expressions that may stand as a text: their text is read as they were. Plain. -/
namespace Go.Proofs.YtfngmdebmedkjacGreatDoor.Rb
open Go.Proofs.YtfngmdebmedkjacGreatDoor Go.Proofs.YtfngmdebmedkjacGreatDoor.Sx Go.Proofs.YtfngmdebmedkjacGreatDoor.Tk

/-- An expression. -/
inductive X where
  | num (k : Int)
  | nam (w : List UInt8)
  | neg (x : X)
  | bin (op : Int) (x y : X)
namespace X
def tr : X → Tr
  | num k => tE 1 [] k []
  | nam w => tE 2 w 0 []
  | neg x => tE 3 [] 0 [x.tr]
  | bin op x y => tE op [] 0 [x.tr, y.tr]
def ok : X → Prop
  | num k => 0 ≤ k ∧ k < 1000000000000000000
  | nam w => Tk.isN w = true
  | neg x => x.ok
  | bin op x y => 4 ≤ op ∧ op ≤ 8 ∧ x.ok ∧ y.ok
def parts : X → Nat
  | num _ => 1
  | nam _ => 1
  | neg x => x.parts + 1
  | bin _ x y => x.parts + y.parts + 1
def hold : X → Nat
  | bin op _ _ => Rn.holds op
  | _ => 3
def sgn (op : Int) : List UInt8 := if op = 4 then [43] else if op = 5 then [45] else if op = 6 then [42] else if op = 7 then [60] else [61, 61]
def text : X → Nat → List UInt8
  | num k, _ => Rn.digs k
  | nam w, _ => w
  | neg x, _ => [45] ++ x.text 3
  | bin op x y, must => Rn.brk (decide (Rn.holds op < must)) (x.text (Rn.lft op) ++ Rn.sign op ++ y.text (Rn.holds op + 1))
def bks (b : Bool) (S : List Shp) : List Shp := if b then [sg [40]] ++ S ++ [sg [41]] else S
def shs : X → Nat → List Shp
  | num k, _ => [nu k]
  | nam w, _ => [nm w]
  | neg x, _ => [sg [45]] ++ x.shs 3
  | bin op x y, must => bks (decide (Rn.holds op < must)) (x.shs (Rn.lft op) ++ [sg (sgn op)] ++ y.shs (Rn.holds op + 1))
theorem parts_pos (x : X) : 1 ≤ x.parts := by cases x <;> simp [parts]

theorem rd_sign (op : Int) : ∃ m, Rn.sign op = 32 :: m ∧ Rd false (Rn.sign op) [sg (sgn op)] := by
  have b32 : Rd false [32] [] := Rd.blank 32 (by decide)
  have one : ∀ b : UInt8, signs.contains b = true → b ≠ 61 → Rd false [32, b, 32] [sg [b]] := fun b h h' => (b32.app0 (Rd.sign h h')).app0 b32
  have two : Rd false [32, 61, 61, 32] [sg [61, 61]] := (b32.app0 Rd.eq2).app0 b32
  unfold Rn.sign sgn
  by_cases h4 : op = 4
  · rw [if_pos h4, if_pos h4]; exact ⟨_, rfl, one 43 (by decide) (by decide)⟩
  rw [if_neg h4, if_neg h4]
  by_cases h5 : op = 5
  · rw [if_pos h5, if_pos h5]; exact ⟨_, rfl, one 45 (by decide) (by decide)⟩
  rw [if_neg h5, if_neg h5]
  by_cases h6 : op = 6
  · rw [if_pos h6, if_pos h6]; exact ⟨_, rfl, one 42 (by decide) (by decide)⟩
  rw [if_neg h6, if_neg h6]
  by_cases h7 : op = 7
  · rw [if_pos h7, if_pos h7]; exact ⟨_, rfl, one 60 (by decide) (by decide)⟩
  rw [if_neg h7, if_neg h7]
  exact ⟨_, rfl, two⟩
/-- The text's tokens. -/
theorem rd (x : X) (h : x.ok) (must : Nat) : Rd true (x.text must) (x.shs must) := by
  induction x generalizing must with
  | num k => exact Rd.num h.1 h.2
  | nam w => exact Rd.name h
  | neg x ih => exact (Rd.sign (by decide) (by decide)).app0 (ih h 3)
  | bin op x y ih1 ih2 =>
    obtain ⟨_, _, hx, hy⟩ := h
    obtain ⟨m, e, hs⟩ := rd_sign op
    have body : Rd true (x.text (Rn.lft op) ++ Rn.sign op ++ y.text (Rn.holds op + 1)) (x.shs (Rn.lft op) ++ [sg (sgn op)] ++ y.shs (Rn.holds op + 1)) :=
      ((ih1 hx (Rn.lft op)).app hs (fun _ => by rw [e]; exact ⟨by simp, rfl⟩)).app0 (ih2 hy (Rn.holds op + 1))
    unfold text shs
    cases decide (Rn.holds op < must) with
    | false => exact body
    | true => exact (((Rd.sign (by decide) (by decide)).app0 body).app (Rd.sign (b := 41) (by decide) (by decide)) (fun _ => ⟨by simp, rfl⟩)).up true

theorem digs_ne (k : Int) (h0 : 0 ≤ k) : Rn.digs k ≠ [40] ∧ Rn.digs k ≠ [45] := by
  have e : Rn.digs k = Lib.decDigits k.toNat := by unfold Rn.digs Lib.itoa; rw [if_neg (by omega)]
  rw [e]
  have h := (dec_val k.toNat).2.2.1
  constructor <;> intro hh <;> rw [hh] at h <;> exact absurd h (by decide)
theorem name_ne (w : List UInt8) (h : Tk.isN w = true) : w ≠ [40] ∧ w ≠ [45] := by
  constructor <;> rintro rfl <;> exact absurd h (by decide)
theorem brk_no {op : Int} {must : Nat} (h : ¬ Rn.holds op < must) (S : List Shp) : bks (decide (Rn.holds op < must)) S = S := by simp [bks, h]
theorem brk_yes {op : Int} {must : Nat} (h : Rn.holds op < must) (S : List Shp) : bks (decide (Rn.holds op < must)) S = [sg [40]] ++ S ++ [sg [41]] := by simp [bks, h]

/-- What is read of the tokens. -/
theorem back (e : Nat) (x : X) (h : x.ok) (hp : x.parts ≤ 20) :
    C0 e (x.shs 0) x.tr x.parts x.parts ∧ C1 e (x.shs 1) x.tr x.parts x.parts ∧ C2 e (x.shs 2) x.tr x.parts x.parts ∧ C3 e (x.shs 3) x.tr x.parts x.parts := by
  have go3 : ∀ (x : X), (∀ m, x.shs m = x.shs 3) → C3 e (x.shs 3) x.tr x.parts x.parts → C0 e (x.shs 0) x.tr x.parts x.parts ∧ C1 e (x.shs 1) x.tr x.parts x.parts ∧ C2 e (x.shs 2) x.tr x.parts x.parts ∧ C3 e (x.shs 3) x.tr x.parts x.parts := by
    intro x hm c3
    rw [hm 0, hm 1, hm 2]
    exact ⟨c3.two.one.zero, c3.two.one, c3.two, c3⟩
  induction x with
  | num k => exact go3 _ (fun _ => rfl) ((C3.num e k (digs_ne k h.1)).more (by omega))
  | nam w => exact go3 _ (fun _ => rfl) ((C3.nam e w (name_ne w h)).more (by omega))
  | neg x ih => exact go3 _ (fun _ => rfl) (ih h (by simp [parts] at hp; omega)).2.2.2.neg
  | bin op x y ih1 ih2 =>
    obtain ⟨h4, h8, hx, hy⟩ := h
    have hpp : x.parts + y.parts + 1 ≤ 20 := hp
    obtain ⟨a0, a1, a2, a3⟩ := ih1 hx (by omega)
    obtain ⟨b0, b1, b2, b3⟩ := ih2 hy (by omega)
    have ho1 : x.parts ≤ x.parts + y.parts := by omega
    have ho2 : y.parts ≤ x.parts + y.parts := by omega
    show C0 e ((bin op x y).shs 0) (tE op [] 0 [x.tr, y.tr]) (x.parts + y.parts + 1) (x.parts + y.parts + 1) ∧ C1 e ((bin op x y).shs 1) (tE op [] 0 [x.tr, y.tr]) (x.parts + y.parts + 1) (x.parts + y.parts + 1) ∧ C2 e ((bin op x y).shs 2) (tE op [] 0 [x.tr, y.tr]) (x.parts + y.parts + 1) (x.parts + y.parts + 1) ∧ C3 e ((bin op x y).shs 3) (tE op [] 0 [x.tr, y.tr]) (x.parts + y.parts + 1) (x.parts + y.parts + 1)
    simp only [shs]
    have hc : op = 6 ∨ (op = 4 ∨ op = 5) ∨ (op = 7 ∨ op = 8) := by omega
    rcases hc with rfl | hc | hc
    · have e2 : Rn.holds 6 = 2 := by decide
      have e3 : Rn.lft 6 = 2 := by decide
      have e4 : sgn 6 = [42] := by decide
      have own := C2.mul (a2.more ho1) (b3.more ho2)
      rw [brk_no (by rw [e2]; omega), brk_no (by rw [e2]; omega), brk_no (by rw [e2]; omega), brk_yes (by rw [e2]; omega), e2, e3, e4]
      exact ⟨own.one.zero.more (by omega), own.one.more (by omega), own.more (by omega), own.one.zero.brk hpp⟩
    · have e2 : Rn.holds op = 1 := by rcases hc with rfl | rfl <;> decide
      have e3 : Rn.lft op = 1 := by rcases hc with rfl | rfl <;> decide
      have own : C1 e (x.shs 1 ++ [sg (sgn op)] ++ y.shs 2) (tE op [] 0 [x.tr, y.tr]) (x.parts + y.parts + 1) (x.parts + y.parts) := by
        rcases hc with rfl | rfl
        · exact C1.add (b := 43) (Or.inl ⟨rfl, rfl⟩) (a1.more ho1) (b2.more ho2)
        · exact C1.add (b := 45) (Or.inr ⟨rfl, rfl⟩) (a1.more ho1) (b2.more ho2)
      rw [brk_no (by rw [e2]; omega), brk_no (by rw [e2]; omega), brk_yes (by rw [e2]; omega), brk_yes (by rw [e2]; omega), e2, e3]
      exact ⟨own.zero.more (by omega), own.more (by omega), (own.zero.brk hpp).two, own.zero.brk hpp⟩
    · have e2 : Rn.holds op = 0 := by rcases hc with rfl | rfl <;> decide
      have e3 : Rn.lft op = 1 := by rcases hc with rfl | rfl <;> decide
      have own : C0 e (x.shs 1 ++ [sg (sgn op)] ++ y.shs 1) (tE op [] 0 [x.tr, y.tr]) (x.parts + y.parts + 1) (x.parts + y.parts) := by
        rcases hc with rfl | rfl
        · exact C0.cmp (Or.inl ⟨rfl, rfl⟩) (a1.more ho1) (b1.more ho2)
        · exact C0.cmp (Or.inr ⟨rfl, rfl⟩) (a1.more ho1) (b1.more ho2)
      rw [brk_no (by rw [e2]; omega), brk_yes (by rw [e2]; omega), brk_yes (by rw [e2]; omega), brk_yes (by rw [e2]; omega), e2, e3]
      exact ⟨own.more (by omega), (own.brk hpp).two.one, (own.brk hpp).two, own.brk hpp⟩
end X

/-- Trees no deeper than that. -/
def fitE : Nat → Tr → Prop
  | 0, _ => False
  | n + 1, d => ∀ x ∈ eL d, fitE n x
theorem firstOf_zero {α : Type} {g : α → Int} {l : List α} (h : Rn.firstOf g l = 0) : ∀ x ∈ l, g x = 0 := by
  induction l with
  | nil => simp
  | cons d r ih =>
    simp only [Rn.firstOf] at h
    by_cases hd : g d = 0
    · rw [if_neg (by simpa using hd)] at h
      intro x hx
      rcases List.mem_cons.1 hx with rfl | hx
      · exact hd
      · exact ih h x hx
    · rw [if_pos hd] at h; exact absurd h hd
/-- A tree in which nothing is wrong is an expression. -/
theorem of_tree (n : Nat) (d : Tr) (hd : fitE n d) (h : Rn.xf n d = 0) : ∃ x : X, x.ok ∧ (∀ must ≤ 3, Rn.xt n must d = x.text must) ∧ Rn.prt n d = x.parts ∧ eH d = eH x.tr ∧ ∀ m, sameE m (eL d) (eL x.tr) = true := by
  induction n generalizing d with
  | zero => exact absurd hd (by simp [fitE])
  | succ n ih =>
    simp only [Rn.xf] at h
    cases hE : eH d with
    | mk op q =>
    obtain ⟨nm, k⟩ := q
    rw [hE] at h
    simp only at h
    by_cases h1 : op < 1 ∨ 8 < op ∨ (eL d).length ≠ Rn.want op ∨ (k ≠ 0 ∧ op ≠ 1) ∨ (nm ≠ [] ∧ op ≠ 2)
    · rw [if_pos h1] at h; omega
    rw [if_neg h1] at h
    by_cases h2 : op = 2 ∧ Tk.isN nm = false
    · rw [if_pos h2] at h; omega
    rw [if_neg h2] at h
    by_cases h3 : k < 0 ∨ 1000000000000000000 ≤ k
    · rw [if_pos h3] at h; omega
    rw [if_neg h3] at h
    have hf := firstOf_zero h
    have hlen : (eL d).length = Rn.want op := by
      apply Classical.byContradiction; intro hc; exact h1 (Or.inr (Or.inr (Or.inl hc)))
    have hk : op ≠ 1 → k = 0 := by intro ho; apply Classical.byContradiction; intro hc; exact h1 (Or.inr (Or.inr (Or.inr (Or.inl ⟨hc, ho⟩))))
    have hn : op ≠ 2 → nm = [] := by intro ho; apply Classical.byContradiction; intro hc; exact h1 (Or.inr (Or.inr (Or.inr (Or.inr ⟨hc, ho⟩))))
    have hop : 1 ≤ op ∧ op ≤ 8 := by omega
    have hxt : ∀ must, Rn.xt (n + 1) must d = Rn.brk (decide (Rn.holds op < must)) (if op = 1 then Rn.digs k else if op = 2 then nm else if op = 3 then [45] ++ Rn.xt n 3 ((eL d).headD d0)
      else Rn.xt n (Rn.lft op) ((eL d).headD d0) ++ Rn.sign op ++ Rn.xt n (Rn.holds op + 1) ((eL d).tail.headD d0)) := by intro must; simp only [Rn.xt, hE]
    have hprt : Rn.prt (n + 1) d = 1 + Sx.sum (Rn.prt n) (eL d) := by unfold Rn.prt; rw [Rn.wE_prt]; rfl
    have fit : ∀ x ∈ eL d, fitE n x := hd
    by_cases o1 : op = 1
    · subst o1
      have hnil : eL d = [] := List.length_eq_zero_iff.1 hlen
      obtain rfl := hn (by decide)
      refine ⟨.num k, ⟨by omega, by omega⟩, fun must hm => ?_, by rw [hprt, hnil]; rfl, rfl, fun m => ?_⟩
      · rw [hxt, if_pos rfl, show Rn.holds 1 = 3 by decide, decide_eq_false (by omega)]; rfl
      · rw [hnil]; exact sameE_refl m []
    by_cases o2 : op = 2
    · subst o2
      have hnil : eL d = [] := List.length_eq_zero_iff.1 hlen
      obtain rfl := hk (by decide)
      refine ⟨.nam nm, ?_, fun must hm => ?_, by rw [hprt, hnil]; rfl, rfl, fun m => ?_⟩
      · show Tk.isN nm = true
        cases hN : Tk.isN nm with
        | true => rfl
        | false => exact absurd ⟨rfl, hN⟩ h2
      · rw [hxt, if_neg (by decide), if_pos rfl, show Rn.holds 2 = 3 by decide, decide_eq_false (by omega)]; rfl
      · rw [hnil]; exact sameE_refl m []
    obtain rfl := hn o2
    obtain rfl := hk o1
    by_cases o3 : op = 3
    · subst o3
      obtain ⟨a, ha⟩ : ∃ a, eL d = [a] := List.length_eq_one_iff.1 hlen
      rw [ha] at hf fit hprt hxt
      obtain ⟨x, x1, x2, x3, x4, x5⟩ := ih a (fit a (by simp)) (hf a (by simp))
      refine ⟨.neg x, x1, fun must hm => ?_, by rw [hprt]; simp only [Sx.sum, X.parts, x3]; omega, rfl, fun m => ?_⟩
      · rw [hxt, if_neg (by decide), if_neg (by decide), if_pos rfl, show Rn.holds 3 = 3 by decide, decide_eq_false (by omega)]
        show [45] ++ Rn.xt n 3 a = [45] ++ x.text 3
        rw [x2 3 (by omega)]
      · rw [ha]
        cases m with
        | zero => rfl
        | succ m => show (eH a == eH x.tr && sameE m (eL a) (eL x.tr) && true) = true
                    simp [x4, x5 m]
    · have hw : Rn.want op = 2 := by unfold Rn.want; rw [if_neg (by omega), if_neg o3]
      rw [hw] at hlen
      obtain ⟨a, b, hab⟩ : ∃ a b, eL d = [a, b] := by
        match hq : eL d, hlen with
        | [a, b], _ => exact ⟨a, b, rfl⟩
      rw [hab] at hf fit hprt hxt
      obtain ⟨x, x1, x2, x3, x4, x5⟩ := ih a (fit a (by simp)) (hf a (by simp))
      obtain ⟨y, y1, y2, y3, y4, y5⟩ := ih b (fit b (by simp)) (hf b (by simp))
      have hl : Rn.lft op ≤ 3 ∧ Rn.holds op + 1 ≤ 3 := by
        have : op = 4 ∨ op = 5 ∨ op = 6 ∨ op = 7 ∨ op = 8 := by omega
        rcases this with rfl | rfl | rfl | rfl | rfl <;> decide
      refine ⟨.bin op x y, ⟨by omega, by omega, x1, y1⟩, fun must hm => ?_, by rw [hprt]; simp only [Sx.sum, X.parts, x3, y3]; omega, rfl, fun m => ?_⟩
      · rw [hxt, if_neg o1, if_neg o2, if_neg o3]
        show Rn.brk _ (Rn.xt n (Rn.lft op) a ++ Rn.sign op ++ Rn.xt n (Rn.holds op + 1) b) = Rn.brk _ (x.text (Rn.lft op) ++ Rn.sign op ++ y.text (Rn.holds op + 1))
        rw [x2 _ hl.1, y2 _ hl.2]
      · rw [hab]
        cases m with
        | zero => rfl
        | succ m => show (eH a == eH x.tr && sameE m (eL a) (eL x.tr) && (eH b == eH y.tr && sameE m (eL b) (eL y.tr) && true)) = true
                    simp [x4, x5 m, y4, y5 m]
end Go.Proofs.YtfngmdebmedkjacGreatDoor.Rb


/- Printed types, things in brackets and heads of statements are read as they were. Plain. -/
namespace Go.Proofs.YtfngmdebmedkjacGreatDoor.Rb
open Go.Proofs.YtfngmdebmedkjacGreatDoor Go.Proofs.YtfngmdebmedkjacGreatDoor.Sx Go.Proofs.YtfngmdebmedkjacGreatDoor.Tk

/-! Types. -/
def tys : List UInt8 → List Shp
  | [] => []
  | b :: r => kw (if b = 115 then wSend else if b = 114 then wRecv else wInt) :: tys r
theorem rd_ty (T : List UInt8) (h : Rn.sides T = true) : Rd true (Rn.tyw T) (tys T) := by
  have b32 : Rd false [32] [] := Rd.blank 32 (by decide)
  induction T with
  | nil => exact absurd h (by decide)
  | cons b r ih =>
    cases r with
    | nil =>
      have hb : b = 105 := by simpa [Rn.sides] using h
      subst hb
      exact Rd.word (w := wInt) (by decide) (by decide) (by decide) (by decide)
    | cons c q =>
      simp only [Rn.sides, Bool.and_eq_true, Bool.or_eq_true, beq_iff_eq] at h
      have ih := ih h.2
      rcases h.1 with rfl | rfl
      · exact ((Rd.word (w := wSend) (by decide) (by decide) (by decide) (by decide)).app1 b32 (by decide)).app0 ih
      · exact ((Rd.word (w := wRecv) (by decide) (by decide) (by decide) (by decide)).app1 b32 (by decide)).app0 ih
theorem ty_back (e : Nat) (T : List UInt8) (h : Rn.sides T = true) (acc : List UInt8) (s : St) (ts r : List Tok) (hS : ts.map shp = tys T) (hl : acc.length + T.length ≤ 4) : ty e acc s (ts ++ r) = .inl (acc ++ T, s, r) := by
  induction T generalizing acc ts with
  | nil => exact absurd h (by decide)
  | cons b q ih =>
    obtain ⟨t, u, rfl, ht, hu⟩ := map_cons hS
    obtain ⟨t1, t2, t3⟩ := shp_text ht
    cases q with
    | nil =>
      have hb : b = 105 := by simpa [Rn.sides] using h
      subst hb
      have hu' : u = [] := List.map_eq_nil_iff.1 hu
      subst hu'
      rw [if_neg (by decide), if_neg (by decide)] at t1
      simp only [List.cons_append, List.nil_append, ty]
      rw [if_neg (by rw [t1]; decide)]
      simp [skp, txt, t1, bnd]
    | cons c q =>
      simp only [Rn.sides, Bool.and_eq_true, Bool.or_eq_true, beq_iff_eq] at h
      simp only [List.length_cons] at hl
      simp only [List.cons_append, ty]
      have hne : ¬ acc.length = 3 := by omega
      rcases h.1 with rfl | rfl
      · rw [if_pos (by decide)] at t1
        rw [if_pos (Or.inl t1), if_neg hne, ih h.2 _ _ hu (by simp [t1, wSend]; omega), t1]
        simp [wSend]
      · rw [if_neg (by decide), if_pos (by decide)] at t1
        rw [if_pos (Or.inr t1), if_neg hne, ih h.2 _ _ hu (by simp [t1, wRecv]; omega), t1]
        simp [wRecv]

/-! Things in brackets. -/
def comS : List (List Shp) → List Shp
  | [] => []
  | x :: r => x ++ r.flatMap fun y => sg [44] :: y
theorem rd_com {ι : Type} (L : List ι) (tx : ι → List UInt8) (sh : ι → List Shp) (h : ∀ i ∈ L, Rd true (tx i) (sh i)) : Rd true (Rn.com (L.map tx)) (comS (L.map sh)) := by
  have b : Rd false [44, 32] [sg [44]] := (Rd.sign (b := 44) (by decide) (by decide)).app0 (Rd.blank 32 (by decide))
  have go : ∀ (L : List ι) (x : ι), (∀ i ∈ x :: L, Rd true (tx i) (sh i)) → Rd true (Rn.com ((x :: L).map tx)) (comS ((x :: L).map sh)) := by
    intro L
    induction L with
    | nil => intro x hx; simpa [Rn.com, comS] using hx x (by simp)
    | cons y L ih =>
      intro x hx
      have h1 := ih y (fun i hi => hx i (by simp at hi ⊢; exact Or.inr hi))
      have h2 := ((hx x (by simp)).app b (fun _ => ⟨by simp, by decide⟩)).app0 h1
      simpa [Rn.com, comS] using h2
  cases L with
  | nil => exact Rd.nil.up true
  | cons x L => exact go L x h

section
variable {ι σ : Type} (e : Nat) (one : Nat → σ → St → List Tok → Rs σ) (sh : ι → List Shp) (put : σ → ι → σ) (w : ι → Nat)
/-- Each is read as it was. -/
def Ones (L : List ι) : Prop := ∀ i ∈ L, ∀ (acc : σ) (s : St) (ts r : List Tok), s.opn + 20 ≤ 60 → ts.map shp = sh i → txt r = [44] ∨ txt r = [41] → Ev (fun f => one f acc s (ts ++ r)) (.inl (put acc i, st s (w i), r))
def tot (L : List ι) : Nat := L.foldr (fun i k => w i + k) 0
theorem brkL_back (L : List ι) (h : Ones one sh put w L) : ∀ (k n : Nat) (acc : σ) (s : St) (ts r : List Tok), L.length < k → n + L.length ≤ 6 → s.opn + 20 ≤ 60 → ts.map shp = L.flatMap (fun y => sg [44] :: sh y) → txt r = [41] →
    Ev (fun f => brkL e (one f) k n acc s (ts ++ r)) (.inl (L.foldl put acc, st s (tot w L), r)) := by
  induction L with
  | nil =>
    intro k n acc s ts r hk hn hs hS hr
    obtain ⟨k, rfl⟩ : ∃ j, k = j + 1 := ⟨k - 1, by simp at hk; omega⟩
    have hts : ts = [] := (List.map_eq_nil_iff (f := shp)).1 hS
    subst hts
    refine Ev.same fun f => ?_
    simp only [List.nil_append, brkL]
    rw [if_neg (by rw [hr]; decide)]
    rfl
  | cons i L ih =>
    intro k n acc s ts r hk hn hs hS hr
    simp only [List.length_cons] at hk hn
    obtain ⟨k, rfl⟩ : ∃ j, k = j + 1 := ⟨k - 1, by omega⟩
    rw [List.flatMap_cons] at hS
    obtain ⟨a, b, rfl, ha, hb⟩ := map_app hS
    obtain ⟨t, u, rfl, ht, hu⟩ := map_cons ha
    obtain ⟨t1, t2, t3⟩ := shp_text ht
    have hnx : txt (b ++ r) = [44] ∨ txt (b ++ r) = [41] := by
      cases L with
      | nil =>
        have hb' : b = [] := (List.map_eq_nil_iff (f := shp)).1 hb
        subst hb'; exact Or.inr hr
      | cons j L =>
        rw [List.flatMap_cons] at hb
        obtain ⟨t', u', rfl, ht', -⟩ := map_cons (by simpa using hb)
        exact Or.inl (shp_text ht').1
    obtain ⟨F, hF⟩ := h i (by simp) acc s u (b ++ r) hs hu hnx
    obtain ⟨G, hG⟩ := ih (fun j hj => h j (by simp [hj])) k (n + 1) (put acc i) (st s (w i)) b r (by omega) (by omega) hs hb hr
    refine ⟨max F G, fun f hf => ?_⟩
    have e1 := hF f (by omega)
    have e2 := hG f (by omega)
    dsimp only at e1 e2
    simp only [List.cons_append, List.append_assoc, brkL]
    rw [if_pos (by simp [txt, t1]), if_neg (by omega)]
    simp only [List.tail_cons]
    rw [e1]
    simp only [bnd]
    rw [e2, st_st]
    rfl
theorem brk_back (L : List ι) (h : Ones one sh put w L) (hh : ∀ i ∈ L, ∃ a S, sh i = a :: S ∧ a.text ≠ [41]) (acc : σ) (s : St) (ts r : List Tok) (hL : L.length ≤ 6) (hs : s.opn + 20 ≤ 60) (hS : ts.map shp = [sg [40]] ++ comS (L.map sh) ++ [sg [41]]) :
    Ev (fun f => Sx.brk e (one f) acc s (ts ++ r)) (.inl (L.foldl put acc, st s (tot w L), r)) := by
  obtain ⟨x, c, rfl, hx, hc⟩ := map_app hS
  obtain ⟨a, b, rfl, ha, hb⟩ := map_app hx
  obtain ⟨t, rfl, ht⟩ := map_one ha
  obtain ⟨t', rfl, ht'⟩ := map_one hc
  obtain ⟨t1, t2, t3⟩ := shp_text ht
  obtain ⟨t1', t2', t3'⟩ := shp_text ht'
  cases L with
  | nil =>
    have hb' : b = [] := (List.map_eq_nil_iff (f := shp)).1 hb
    subst hb'
    refine Ev.same fun f => ?_
    simp [Sx.brk, skp, txt, t1, t1', bnd, tot, st]
  | cons i L =>
    rw [List.map_cons] at hb
    simp only [comS] at hb
    obtain ⟨u, v, rfl, hu, hv⟩ := map_app hb
    rw [List.flatMap_map] at hv
    obtain ⟨q, S, hq, hq'⟩ := hh i (by simp)
    have hu' : txt (u ++ (v ++ t' :: r)) ≠ [41] := by
      rw [hq] at hu
      obtain ⟨y, z, rfl, hy, -⟩ := map_cons hu
      have : y.text = q.text := by rw [← hy]; rfl
      simp only [List.cons_append, txt, this]
      exact hq'
    simp only [List.length_cons] at hL
    have hnx : txt (v ++ t' :: r) = [44] ∨ txt (v ++ t' :: r) = [41] := by
      cases L with
      | nil =>
        have hb' : v = [] := (List.map_eq_nil_iff (f := shp)).1 hv
        subst hb'; exact Or.inr (by simp [txt, t1'])
      | cons j L =>
        rw [List.flatMap_cons] at hv
        obtain ⟨t', u', rfl, ht', -⟩ := map_cons (by simpa using hv)
        exact Or.inl (shp_text ht').1
    obtain ⟨F, hF⟩ := h i (by simp) acc s u (v ++ t' :: r) hs hu hnx
    obtain ⟨G, hG⟩ := brkL_back e one sh put w L (fun j hj => h j (by simp [hj])) 7 1 (put acc i) (st s (w i)) v (t' :: r) (by omega) (by omega) hs hv (by simp [txt, t1'])
    refine ⟨max F G, fun f hf => ?_⟩
    have e1 := hF f (by omega)
    have e2 := hG f (by omega)
    dsimp only at e1 e2
    have e0 : [t] ++ (u ++ v) ++ [t'] ++ r = t :: (u ++ (v ++ t' :: r)) := by simp
    rw [e0]
    simp only [Sx.brk, skp]
    rw [if_pos (by simp [txt, t1])]
    simp only [bnd, List.tail_cons]
    simp only [hu', ↓reduceIte, e1, e2, st_st]
    simp only [txt, t1', ↓reduceIte, List.tail_cons, List.foldl_cons]
    rfl
end

/-- The front of an expression's tokens. -/
theorem X.front (x : X) (h : x.ok) (must : Nat) : ∃ a S, x.shs must = a :: S ∧ a.text ≠ [41] ∧ a.text ≠ [125] := by
  induction x generalizing must with
  | num k =>
    refine ⟨_, _, rfl, ?_⟩
    have e : Rn.digs k = Lib.decDigits k.toNat := by unfold Rn.digs Lib.itoa; rw [if_neg (by have := h.1; omega)]
    show Rn.digs k ≠ [41] ∧ Rn.digs k ≠ [125]
    rw [e]
    have h := (dec_val k.toNat).2.2.1
    constructor <;> intro hh <;> rw [hh] at h <;> exact absurd h (by decide)
  | nam w =>
    refine ⟨_, _, rfl, ?_⟩
    show w ≠ [41] ∧ w ≠ [125]
    have h : Tk.isN w = true := h
    constructor <;> rintro rfl <;> exact absurd h (by decide)
  | neg x ih => exact ⟨_, _, rfl, by simp [sg], by simp [sg]⟩
  | bin op x y ih1 ih2 =>
    simp only [X.shs]
    cases decide (Rn.holds op < must) with
    | true => exact ⟨_, _, rfl, by simp [sg], by simp [sg]⟩
    | false =>
      obtain ⟨a, S, e, h'⟩ := ih1 h.2.2.1 (Rn.lft op)
      exact ⟨a, S ++ [sg (X.sgn op)] ++ y.shs (Rn.holds op + 1), by simp [X.bks, e], h'⟩
theorem X.read (x : X) (h : x.ok) (hp : x.parts ≤ 20) (e : Nat) (s : St) (ts r : List Tok) (y : Tr) (hs : s.opn + 20 ≤ 60) (hS : ts.map shp = x.shs 0) (hr : fol r) : Ev (fun f => pe e f 0 y s (ts ++ r)) (.inl (x.tr, st s x.parts, r)) :=
  (x.back e h hp).1 hp s (by omega) ts r y hS hr
theorem args_back (e : Nat) (E : List X) (hE : ∀ x ∈ E, x.ok ∧ x.parts ≤ 20) (hL : E.length ≤ 6) (s : St) (ts r : List Tok) (hs : s.opn + 20 ≤ 60) (hS : ts.map shp = [sg [40]] ++ comS (E.map fun x => x.shs 0) ++ [sg [41]]) :
    Ev (fun f => Sx.brk e (argOne e f) [] s (ts ++ r)) (.inl (E.map X.tr, st s (tot X.parts E), r)) := by
  have h := brk_back e (fun f => argOne e f) (fun x : X => x.shs 0) (fun (acc : List Tr) x => acc ++ [x.tr]) X.parts E (by
    intro x hx acc s ts r hs hS hr
    obtain ⟨F, hF⟩ := x.read (hE x hx).1 (hE x hx).2 e s ts r d0 hs hS (by rcases hr with hr | hr <;> simp [fol, hr])
    refine ⟨F, fun f hf => ?_⟩
    have e1 := hF f hf
    dsimp only at e1
    simp only [argOne]
    rw [e1]
    rfl) (fun x hx => by obtain ⟨a, S, h1, h2, -⟩ := x.front (hE x hx).1 0; exact ⟨a, S, h1, h2⟩) [] s ts r hL hs hS
  have ef : ∀ (E : List X) (acc : List Tr), E.foldl (fun (acc : List Tr) x => acc ++ [x.tr]) acc = acc ++ E.map X.tr := by
    intro E; induction E with
    | nil => simp
    | cons x E ih => intro acc; simp [ih]
  rw [ef] at h
  exact h
def parS (p : List UInt8 × List UInt8) : List Shp := nm p.1 :: tys p.2
theorem pars_back (e : Nat) (L : List (List UInt8 × List UInt8)) (hL : L.length ≤ 6) (hE : ∀ p ∈ L, Tk.isN p.1 = true ∧ Rn.isT p.2 3 = true) (s : St) (ts r : List Tok) (hs : s.opn + 20 ≤ 60) (hS : ts.map shp = [sg [40]] ++ comS (L.map parS) ++ [sg [41]]) :
    Sx.brk e (parOne e) [] s (ts ++ r) = .inl (L.map fun p => tP p.1 p.2, s, r) := by
  have h := brk_back e (fun _ => parOne e) parS (fun (acc : List Tr) p => acc ++ [tP p.1 p.2]) (fun _ => 0) L (by
    intro p hp acc s ts r hs hS hr
    obtain ⟨h1, h2⟩ := hE p hp
    refine Ev.same fun f => ?_
    obtain ⟨t, u, rfl, ht, hu⟩ := map_cons hS
    obtain ⟨t1, t2, t3⟩ := shp_text ht
    simp only [Rn.isT, Bool.and_eq_true, decide_eq_true_eq] at h2
    have e1 := ty_back e p.2 h2.1 [] s u r hu (by simp; omega)
    simp only [parOne, nameOf, tokOf, List.cons_append, t2]
    simp only [beq_self_eq_true, if_true, bnd]
    rw [e1, t1]
    rfl) (fun p hp => ⟨_, _, rfl, by show p.1 ≠ [41]; rintro h; have := (hE p hp).1; rw [h] at this; exact absurd this (by decide)⟩) [] s ts r hL hs hS
  have ef : ∀ (E : List (List UInt8 × List UInt8)) (acc : List Tr), E.foldl (fun (acc : List Tr) p => acc ++ [tP p.1 p.2]) acc = acc ++ E.map fun p => tP p.1 p.2 := by
    intro E; induction E with
    | nil => simp
    | cons x E ih => intro acc; simp [ih]
  have et : ∀ (E : List (List UInt8 × List UInt8)), tot (fun _ => 0) E = 0 := by
    intro E; induction E with
    | nil => rfl
    | cons x E ih => show 0 + tot (fun _ => 0) E = 0; rw [ih]
  rw [ef, et] at h
  obtain ⟨F, hF⟩ := h
  exact hF F (Nat.le_refl _)
end Go.Proofs.YtfngmdebmedkjacGreatDoor.Rb

import Derived.Test.YtfngmdebmedkjacGreatDoorRzB
/- What is read of a text's tokens may be printed, but for its length: expressions. Plain. -/
namespace Go.Proofs.YtfngmdebmedkjacGreatDoor.Rb
open Go.Proofs.YtfngmdebmedkjacGreatDoor Go.Proofs.YtfngmdebmedkjacGreatDoor.Sx Go.Proofs.YtfngmdebmedkjacGreatDoor.Tk

/-- Names are names, numbers are numbers. -/
def Gt (r : List Tok) : Prop := ∀ t ∈ r, (t.kind = 2 → Tk.isN t.text = true) ∧ (t.kind = 3 → 0 ≤ t.n ∧ t.n < 1000000000000000000)
/-- What is read is so. -/
def Gd {α : Type} (Q : α → St → Prop) : Rs α → Prop
  | .inl (x, s, r) => Gt r ∧ Q x s
  | .inr _ => True
theorem Gt.tail {r : List Tok} (h : Gt r) : Gt r.tail := fun t ht => h t (List.mem_of_mem_tail ht)
theorem Gd.bnd {α β : Type} {Q : α → St → Prop} {Q' : β → St → Prop} {m : Rs α} {k : α → St → List Tok → Rs β} (h : Gd Q m) (hk : ∀ x s r, Gt r → Q x s → Gd Q' (k x s r)) : Gd Q' (Sx.bnd m k) := by
  match m, h with
  | .inl (x, s, r), h => exact hk x s r h.1 h.2
  | .inr f, _ => trivial
theorem Gd.mono {α : Type} {Q Q' : α → St → Prop} {m : Rs α} (h : Gd Q m) (hq : ∀ x s, Q x s → Q' x s) : Gd Q' m := by
  match m, h with
  | .inl (x, s, r), h => exact ⟨h.1, hq _ _ h.2⟩
  | .inr f, _ => trivial
theorem Gd.ite {α : Type} {Q : α → St → Prop} {c : Prop} [Decidable c] {a b : Rs α} (h : c → Gd Q a) (h' : ¬ c → Gd Q b) : Gd Q (if c then a else b) := by
  by_cases hc : c
  · rw [if_pos hc]; exact h hc
  · rw [if_neg hc]; exact h' hc
theorem gd_bad {α : Type} {Q : α → St → Prop} {c : Int} {e : Nat} {ts : List Tok} : Gd Q (bad c e ts : Rs α) := trivial
theorem gd_unfit {α : Type} {Q : α → St → Prop} {e : Nat} {ts : List Tok} : Gd Q (unfit e ts : Rs α) := trivial
theorem gd_skp {e : Nat} {x : List UInt8} {s : St} {ts : List Tok} (h : Gt ts) : Gd (fun _ s' => s' = s) (skp e x s ts) := by
  unfold skp
  exact Gd.ite (fun _ => ⟨h.tail, rfl⟩) (fun _ => trivial)
theorem gd_tok {e : Nat} {k : Int} {s : St} {ts : List Tok} (h : Gt ts) : Gd (fun t s' => s' = s ∧ t.kind = k ∧ t ∈ ts) (tokOf e k s ts) := by
  cases ts with
  | nil => trivial
  | cons t r =>
    unfold tokOf
    exact Gd.ite (fun hk => ⟨h.tail, rfl, by simpa using hk, by simp⟩) (fun _ => trivial)
theorem gd_name {e : Nat} {s : St} {ts : List Tok} (h : Gt ts) : Gd (fun x s' => s' = s ∧ Tk.isN x = true) (nameOf e s ts) :=
  (gd_tok h).bnd fun t _ _ hr hq => ⟨hr, hq.1, (h t hq.2.2).1 hq.2.1⟩
theorem gd_num {e : Nat} {s : St} {ts : List Tok} (h : Gt ts) : Gd (fun x s' => s' = s ∧ 0 ≤ x ∧ x < 1000000000000000000) (Sx.numOf e s ts) :=
  (gd_tok h).bnd fun t _ _ hr hq => ⟨hr, hq.1, (h t hq.2.2).2 hq.2.1⟩
theorem gd_ent {e : Nat} {s : St} {ts : List Tok} (h : Gt ts) : Gd (fun _ s' => s' = { s with opn := s.opn + 1 }) (ent e s ts) := by
  unfold ent
  exact Gd.ite (fun _ => trivial) (fun _ => ⟨h.tail, rfl⟩)
theorem gd_join {op : Int} {x : Tr} {m : Rs Tr} {Q : Tr → St → Prop} (h : Gd Q m) : Gd (fun z s' => ∃ y s1, Q y s1 ∧ z = tE op [] 0 [x, y] ∧ s' = s1.part) (join op x m) :=
  h.bnd fun y s1 _ hr hq => ⟨hr, y, s1, hq, rfl, rfl⟩

/-- No statement more, no block more. -/
def sd (s s' : St) : Prop := s'.stmts = s.stmts ∧ s'.dep = s.dep
theorem sd.refl (s : St) : sd s s := ⟨rfl, rfl⟩
theorem sd.trans {a b c : St} (h : sd a b) (k : sd b c) : sd a c := ⟨k.1.trans h.1, k.2.trans h.2⟩
def EQ0 (g : Nat) (s : St) (z : Tr) (s' : St) : Prop := ∃ x : X, z = x.tr ∧ x.ok ∧ s'.parts = s.parts + x.parts ∧ (g = 0 → x.parts ≤ 20) ∧ sd s s'
def EQ1 (x0 : X) (s : St) (z : Tr) (s' : St) : Prop := ∃ x : X, z = x.tr ∧ x.ok ∧ s'.parts + x0.parts = s.parts + x.parts ∧ sd s s'
theorem pe_gd (e f : Nat) : (∀ (g : Nat) (x : Tr) (s : St) (ts : List Tok), g ≠ 4 → g ≠ 5 → Gt ts → Gd (EQ0 g s) (pe e f g x s ts)) ∧ (∀ (g : Nat) (x0 : X) (s : St) (ts : List Tok), g = 4 ∨ g = 5 → x0.ok → Gt ts → Gd (EQ1 x0 s) (pe e f g x0.tr s ts)) := by
  induction f with
  | zero => exact ⟨fun g x s ts _ _ _ => trivial, fun g x0 s ts _ _ _ => trivial⟩
  | succ f ih =>
    obtain ⟨ih0, ih1⟩ := ih
    refine ⟨fun g x s ts h4 h5 hts => ?_, fun g x0 s ts hg hx hts => ?_⟩
    · rcases pe_kinds g with rfl | rfl | rfl | rfl | rfl | hg
      · rw [pe_0]
        have two : ∀ (op : Int) (y : X) (s1 : St) (r1 : List Tok), 4 ≤ op → op ≤ 8 → y.ok → s1.parts = s.parts + y.parts → sd s s1 → Gt r1 → Gd (EQ0 1 s) (join op y.tr (pe e f 1 d0 s1 r1.tail)) := by
          intro op y s1 r1 o1 o2 hy hs1 hd hr1
          refine (gd_join (ih0 1 d0 s1 r1.tail (by decide) (by decide) hr1.tail)).mono ?_
          rintro z s' ⟨z', s2, ⟨y2, rfl, hy2, hs2, -, hd2⟩, rfl, rfl⟩
          exact ⟨.bin op y y2, rfl, ⟨o1, o2, hy, hy2⟩, by show s2.parts + 1 = _; simp only [X.parts]; omega, fun h => by omega, hd.trans hd2⟩
        refine Gd.bnd (Q := EQ0 1 s) ((ih0 1 d0 s ts (by decide) (by decide) hts).bnd fun y s1 r1 hr1 hq => ?_) fun z s3 r3 hr3 hq => ?_
        · obtain ⟨y, rfl, hy, hs1, -, hd⟩ := hq
          exact Gd.ite (fun _ => two 7 y s1 r1 (by decide) (by decide) hy hs1 hd hr1) (fun _ => Gd.ite (fun _ => two 8 y s1 r1 (by decide) (by decide) hy hs1 hd hr1) (fun _ => ⟨hr1, y, rfl, hy, hs1, fun h => by omega, hd⟩))
        · obtain ⟨y, rfl, hy, hs1, -, hd⟩ := hq
          exact Gd.ite (fun _ => trivial) (fun hc => ⟨hr3, y, rfl, hy, hs1, fun _ => by omega, hd⟩)
      · rw [pe_1]
        refine (ih0 2 d0 s ts (by decide) (by decide) hts).bnd fun y s1 r1 hr1 hq => ?_
        obtain ⟨y, rfl, hy, hs1, -, hd⟩ := hq
        refine (ih1 4 y s1 r1 (Or.inl rfl) hy hr1).mono ?_
        rintro z s' ⟨y2, rfl, hy2, hs2, hd2⟩
        exact ⟨y2, rfl, hy2, by omega, fun h => by omega, hd.trans hd2⟩
      · rw [pe_2]
        refine (ih0 3 d0 s ts (by decide) (by decide) hts).bnd fun y s1 r1 hr1 hq => ?_
        obtain ⟨y, rfl, hy, hs1, -, hd⟩ := hq
        refine (ih1 5 y s1 r1 (Or.inr rfl) hy hr1).mono ?_
        rintro z s' ⟨y2, rfl, hy2, hs2, hd2⟩
        exact ⟨y2, rfl, hy2, by omega, fun h => by omega, hd.trans hd2⟩
      · exact absurd rfl h4
      · exact absurd rfl h5
      · have hg0 : g ≠ 0 := by omega
        rw [pe_u e f g x s ts hg]
        refine Gd.ite (fun _ => ?_) fun _ => Gd.ite (fun _ => ?_) fun _ => Gd.ite (fun _ => ?_) fun _ => ?_
        · refine (gd_ent hts).bnd fun _ s1 r1 hr1 hq => (ih0 0 d0 s1 r1 (by decide) (by decide) hr1).bnd fun y s2 r2 hr2 hq2 => (gd_skp hr2).bnd fun _ s3 r3 hr3 hq3 => ?_
          subst hq hq3
          obtain ⟨y, rfl, hy, hs2, -, hd⟩ := hq2
          exact ⟨hr3, y, rfl, hy, hs2, fun h => absurd h hg0, hd⟩
        · refine (gd_ent hts).bnd fun _ s1 r1 hr1 hq => (ih0 3 d0 s1 r1 (by decide) (by decide) hr1).bnd fun y s2 r2 hr2 hq2 => ?_
          subst hq
          obtain ⟨y, rfl, hy, hs2, -, hd⟩ := hq2
          exact ⟨hr2, .neg y, rfl, hy, by show s2.parts + 1 = s.parts + (y.parts + 1); have : s2.parts = s.parts + y.parts := hs2; omega, fun h => absurd h hg0, hd⟩
        · refine (gd_num hts).bnd fun n s1 r1 hr1 hq => ?_
          obtain ⟨rfl, hn⟩ := hq
          exact ⟨hr1, .num n, rfl, hn, rfl, fun h => absurd h hg0, sd.refl _⟩
        · refine (gd_name hts).bnd fun n s1 r1 hr1 hq => ?_
          obtain ⟨rfl, hn⟩ := hq
          exact ⟨hr1, .nam n, rfl, hn, rfl, fun h => absurd h hg0, sd.refl _⟩
    · rcases hg with rfl | rfl
      · rw [pe_4]
        have two : ∀ (op : Int), 4 ≤ op → op ≤ 8 → Gd (EQ1 x0 s) (Sx.bnd (join op x0.tr (pe e f 2 d0 s ts.tail)) fun z s1 r1 => pe e f 4 z s1 r1) := by
          intro op o1 o2
          refine (gd_join (ih0 2 d0 s ts.tail (by decide) (by decide) hts.tail)).bnd fun z s1 r1 hr1 hq => ?_
          obtain ⟨z', s2, ⟨y2, rfl, hy2, hs2, -, hd⟩, rfl, rfl⟩ := hq
          refine (ih1 4 (.bin op x0 y2) s2.part r1 (Or.inl rfl) ⟨o1, o2, hx, hy2⟩ hr1).mono ?_
          rintro z s' ⟨y3, rfl, hy3, hs3, hd3⟩
          exact ⟨y3, rfl, hy3, by simp only [X.parts, St.part] at hs3; omega, hd.trans hd3⟩
        exact Gd.ite (fun _ => two 4 (by decide) (by decide)) fun _ => Gd.ite (fun _ => two 5 (by decide) (by decide)) fun _ => ⟨hts, x0, rfl, hx, rfl, sd.refl _⟩
      · rw [pe_5]
        refine Gd.ite (fun _ => ?_) fun _ => ⟨hts, x0, rfl, hx, rfl, sd.refl _⟩
        refine (gd_join (ih0 3 d0 s ts.tail (by decide) (by decide) hts.tail)).bnd fun z s1 r1 hr1 hq => ?_
        obtain ⟨z', s2, ⟨y2, rfl, hy2, hs2, -, hd⟩, rfl, rfl⟩ := hq
        refine (ih1 5 (.bin 6 x0 y2) s2.part r1 (Or.inr rfl) ⟨by decide, by decide, hx, hy2⟩ hr1).mono ?_
        rintro z s' ⟨y3, rfl, hy3, hs3, hd3⟩
        exact ⟨y3, rfl, hy3, by simp only [X.parts, St.part] at hs3; omega, hd.trans hd3⟩
/-- An expression of a statement. -/
theorem expr_gd (e f : Nat) (s : St) (ts : List Tok) (h : Gt ts) : Gd (fun z s' => (∃ x : X, z = x.tr ∧ x.ok ∧ x.parts ≤ 20) ∧ sd s s') (pe e f 0 d0 s ts) :=
  ((pe_gd e f).1 0 d0 s ts (by decide) (by decide) h).mono fun z s' ⟨x, h1, h2, h3, h4, h5⟩ => ⟨⟨x, h1, h2, h4 rfl⟩, h5⟩

/-- In an expression's tree nothing is wrong. -/
theorem X.prt (x : X) : ∀ n, x.parts ≤ n → Rn.prt n x.tr = x.parts := by
  induction x with
  | num k => intro n h; cases n with
    | zero => simp [X.parts] at h
    | succ n => rfl
  | nam w => intro n h; cases n with
    | zero => simp [X.parts] at h
    | succ n => rfl
  | neg x ih => intro n h; cases n with
    | zero => simp [X.parts] at h
    | succ n =>
      simp only [X.parts] at h ⊢
      unfold Rn.prt
      rw [Rn.wE_prt]
      show 1 + (Rn.prt n x.tr + 0) = _
      rw [ih n (by omega)]; omega
  | bin op x y ih1 ih2 => intro n h; cases n with
    | zero => simp [X.parts] at h
    | succ n =>
      simp only [X.parts] at h ⊢
      unfold Rn.prt
      rw [Rn.wE_prt]
      show 1 + (Rn.prt n x.tr + (Rn.prt n y.tr + 0)) = _
      rw [ih1 n (by omega), ih2 n (by omega)]; omega
theorem xf_eq (n : Nat) (op : Int) (nm : List UInt8) (k : Int) (L : List Tr) : Rn.xf (n + 1) (tE op nm k L) = if op < 1 ∨ 8 < op ∨ L.length ≠ Rn.want op ∨ (k ≠ 0 ∧ op ≠ 1) ∨ (nm ≠ [] ∧ op ≠ 2) then 5
    else if op = 2 ∧ Tk.isN nm = false then 4
    else if k < 0 ∨ 1000000000000000000 ≤ k then 3
    else Rn.firstOf (Rn.xf n) L := rfl
theorem X.xf (x : X) (h : x.ok) : ∀ n, Rn.xf n x.tr = 0 := by
  induction x with
  | num k => intro n; cases n with
    | zero => rfl
    | succ n =>
      have h : 0 ≤ k ∧ k < 1000000000000000000 := h
      show Rn.xf (n + 1) (tE 1 [] k []) = 0
      rw [xf_eq, if_neg (by simp [Rn.want]), if_neg (by simp), if_neg (by omega)]; rfl
  | nam w => intro n; cases n with
    | zero => rfl
    | succ n =>
      have h : Tk.isN w = true := h
      show Rn.xf (n + 1) (tE 2 w 0 []) = 0
      rw [xf_eq, if_neg (by simp [Rn.want]), if_neg (by simp [h]), if_neg (by omega)]; rfl
  | neg x ih => intro n; cases n with
    | zero => rfl
    | succ n =>
      show Rn.xf (n + 1) (tE 3 [] 0 [x.tr]) = 0
      rw [xf_eq, if_neg (by simp [Rn.want]), if_neg (by simp), if_neg (by omega)]
      simp only [Rn.firstOf]
      rw [if_neg (by simpa using ih h n)]
  | bin op x y ih1 ih2 => intro n; cases n with
    | zero => rfl
    | succ n =>
      obtain ⟨o1, o2, hx, hy⟩ := h
      have hw : Rn.want op = 2 := by unfold Rn.want; rw [if_neg (by omega), if_neg (by omega)]
      show Rn.xf (n + 1) (tE op [] 0 [x.tr, y.tr]) = 0
      rw [xf_eq, hw, if_neg (by simp; omega), if_neg (by omega), if_neg (by omega)]
      simp only [Rn.firstOf]
      rw [if_neg (by simpa using ih1 hx n), if_neg (by simpa using ih2 hy n)]
theorem X.ef (x : X) (h : x.ok) (hp : x.parts ≤ 20) (n : Nat) (hn : 20 ≤ n) : Rn.ef n x.tr = 0 := by
  unfold Rn.ef
  rw [x.prt n (by omega), if_neg (by omega), x.xf h n]
end Go.Proofs.YtfngmdebmedkjacGreatDoor.Rb


/- What is read of a text's tokens may be printed, but for its length: statements, blocks, stages, programs. Plain. -/
namespace Go.Proofs.YtfngmdebmedkjacGreatDoor.Rb
open Go.Proofs.YtfngmdebmedkjacGreatDoor Go.Proofs.YtfngmdebmedkjacGreatDoor.Sx Go.Proofs.YtfngmdebmedkjacGreatDoor.Tk

theorem sides_app (acc : List UInt8) (h : ∀ b ∈ acc, b = 115 ∨ b = 114) : Rn.sides (acc ++ [105]) = true := by
  induction acc with
  | nil => rfl
  | cons b r ih =>
    have ih := ih (fun x hx => h x (by simp [hx]))
    have hb := h b (by simp)
    cases hr : r ++ [105] with
    | nil => simp at hr
    | cons c q =>
      rw [List.cons_append, hr]
      rw [hr] at ih
      simp only [Rn.sides, Bool.and_eq_true, Bool.or_eq_true, beq_iff_eq]
      exact ⟨hb, ih⟩
theorem ty_gd (e : Nat) (ts : List Tok) : ∀ (acc : List UInt8) (s : St), Gt ts → (∀ b ∈ acc, b = 115 ∨ b = 114) → acc.length ≤ 3 → Gd (fun T s' => Rn.isT T 3 = true ∧ s' = s) (ty e acc s ts) := by
  induction ts with
  | nil => intro acc s _ _ _; trivial
  | cons t r ih =>
    intro acc s h ha hl
    unfold ty
    refine Gd.ite (fun ht => Gd.ite (fun _ => trivial) fun h3 => ?_) fun ht => ?_
    · refine ih _ s h.tail ?_ ?_
      · intro b hb
        rcases List.mem_append.1 hb with hb | hb
        · exact ha b hb
        · rcases ht with ht | ht <;> rw [ht] at hb <;> simp [wSend, wRecv] at hb
          · exact Or.inl hb
          · exact Or.inr hb
      · have : (t.text.take 1).length ≤ 1 := by simp; omega
        rw [List.length_append]; omega
    · refine (gd_skp h).bnd fun _ s1 r1 hr1 hq => ⟨hr1, ?_, hq⟩
      unfold Rn.isT
      rw [sides_app acc ha]
      simp; omega

theorem brkL_gd {e : Nat} {one : List Tr → St → List Tok → Rs (List Tr)} {I : List Tr → Prop} (hone : ∀ acc s ts, Gt ts → I acc → Gd (fun acc' s' => acc'.length = acc.length + 1 ∧ I acc' ∧ sd s s') (one acc s ts)) (k : Nat) :
    ∀ (n : Nat) (acc : List Tr) (s : St) (ts : List Tok), Gt ts → I acc → acc.length = n → n ≤ 6 → Gd (fun acc' s' => acc'.length ≤ 6 ∧ I acc' ∧ sd s s') (brkL e one k n acc s ts) := by
  induction k with
  | zero => intro n acc s ts _ _ _ _; trivial
  | succ k ih =>
    intro n acc s ts h hI hn h6
    unfold brkL
    refine Gd.ite (fun _ => Gd.ite (fun _ => trivial) fun hn6 => ?_) fun _ => ⟨h, by omega, hI, sd.refl _⟩
    refine (hone acc s ts.tail h.tail hI).bnd fun acc' s1 r1 hr1 hq => ?_
    obtain ⟨q1, q2, q3⟩ := hq
    exact (ih (n + 1) acc' s1 r1 hr1 q2 (by omega) (by omega)).mono fun a s' ⟨a1, a2, a3⟩ => ⟨a1, a2, q3.trans a3⟩
theorem brk_gd {e : Nat} {one : List Tr → St → List Tok → Rs (List Tr)} {I : List Tr → Prop} (hone : ∀ acc s ts, Gt ts → I acc → Gd (fun acc' s' => acc'.length = acc.length + 1 ∧ I acc' ∧ sd s s') (one acc s ts)) (h0 : I []) (s : St) (ts : List Tok) (h : Gt ts) :
    Gd (fun acc' s' => acc'.length ≤ 6 ∧ I acc' ∧ sd s s') (Sx.brk e one [] s ts) := by
  unfold Sx.brk
  refine (gd_skp h).bnd fun _ s1 r1 hr1 hq => ?_
  subst hq
  refine Gd.bnd (Q := fun acc' s' => acc'.length ≤ 6 ∧ I acc' ∧ sd s1 s') (Gd.ite (fun _ => ⟨hr1, by simp, h0, sd.refl _⟩) fun _ => ?_) fun acc s2 r2 hr2 hq2 => (gd_skp hr2).bnd fun _ s3 r3 hr3 hq3 => ⟨hr3, by subst hq3; exact hq2⟩
  refine (hone [] s1 r1 hr1 h0).bnd fun acc' s2 r2 hr2 hq => ?_
  obtain ⟨q1, q2, q3⟩ := hq
  exact (brkL_gd hone 7 1 acc' s2 r2 hr2 q2 (by simpa using q1) (by omega)).mono fun a s' ⟨a1, a2, a3⟩ => ⟨a1, a2, q3.trans a3⟩

def IE (l : List Tr) : Prop := ∀ d ∈ l, ∃ x : X, d = x.tr ∧ x.ok ∧ x.parts ≤ 20
def IP (l : List Tr) : Prop := ∀ p ∈ l, Tk.isN (pH p).1 = true ∧ Rn.isT (pH p).2 3 = true
theorem arg_gd (e f : Nat) (acc : List Tr) (s : St) (ts : List Tok) (h : Gt ts) (hI : IE acc) : Gd (fun acc' s' => acc'.length = acc.length + 1 ∧ IE acc' ∧ sd s s') (argOne e f acc s ts) := by
  unfold argOne
  refine (expr_gd e f s ts h).bnd fun x s1 r1 hr1 hq => ⟨hr1, by simp, fun d hd => ?_, hq.2⟩
  rcases List.mem_append.1 hd with hd | hd
  · exact hI d hd
  · rw [List.mem_singleton.1 hd]; exact hq.1
theorem par_gd (e : Nat) (acc : List Tr) (s : St) (ts : List Tok) (h : Gt ts) (hI : IP acc) : Gd (fun acc' s' => acc'.length = acc.length + 1 ∧ IP acc' ∧ sd s s') (parOne e acc s ts) := by
  unfold parOne
  refine (gd_name h).bnd fun nm s1 r1 hr1 hq => (ty_gd e r1 [] s1 hr1 (by simp) (by simp)).bnd fun T s2 r2 hr2 hq2 => ⟨hr2, by simp, fun d hd => ?_, by rw [hq2.2, hq.1]; exact sd.refl _⟩
  rcases List.mem_append.1 hd with hd | hd
  · exact hI d hd
  · rw [List.mem_singleton.1 hd]; exact ⟨hq.2, hq2.1⟩

/-- The parts of a head. -/
structure OkF (d : Nat) (x : Flds) : Prop where
  A : Rn.hasA d = true → Tk.isN x.A = true
  A' : Rn.hasA d = false → x.A = []
  B : Rn.hasB d = true → Tk.isN x.B = true
  B' : Rn.hasB d = false → x.B = []
  T : Rn.hasT d = true → Rn.isT x.T 3 = true
  T' : Rn.hasT d = false → x.T = [] ∧ x.n = 0
  k : 0 ≤ x.n ∧ x.n < 1000000000000000000
  E : IE x.E
  L : d = 10 → x.E.length ≤ 6
  L' : d ≠ 10 → x.E.length = Rn.fewE d
theorem sf_ok (n deep d : Nat) (at' : Int) (x : Flds) (body els : List Tr) (hn : 20 ≤ n) (h1 : 1 ≤ d) (h14 : d ≤ 14) (h : OkF d x) (hb : d ≤ 10 → body = [] ∧ els = []) (ho : els ≠ [] → d = 11 ∨ d = 14) (hd : 11 ≤ d → deep < 8) :
    Rn.sf n deep (tS d at' x.A x.B x.T x.n x.E body els) = 0 := by
  have hfm : Rn.formed (tS d at' x.A x.B x.T x.n x.E body els) = true := by
    show (decide (1 ≤ (d : Int)) && decide ((d : Int) ≤ 14) && (Rn.hasA d || x.A == []) && (Rn.hasB d || x.B == []) && (Rn.hasT d || x.T == []) && (Rn.hasT d || x.n == 0) && (Rn.hasS d || body.isEmpty) && (Rn.hasO d || els.isEmpty) && ((d : Int) == 10 || x.E.length == Rn.fewE d)) = true
    simp only [Bool.and_eq_true, Bool.or_eq_true, decide_eq_true_eq, beq_iff_eq, List.isEmpty_iff]
    refine ⟨⟨⟨⟨⟨⟨⟨⟨by omega, by omega⟩, ?_⟩, ?_⟩, ?_⟩, ?_⟩, ?_⟩, ?_⟩, ?_⟩
    · cases hA : Rn.hasA d with
      | true => exact Or.inl rfl
      | false => exact Or.inr (h.A' hA)
    · cases hA : Rn.hasB d with
      | true => exact Or.inl rfl
      | false => exact Or.inr (h.B' hA)
    · cases hA : Rn.hasT d with
      | true => exact Or.inl rfl
      | false => exact Or.inr (h.T' hA).1
    · cases hA : Rn.hasT d with
      | true => exact Or.inl rfl
      | false => exact Or.inr (h.T' hA).2
    · by_cases h10 : d ≤ 10
      · exact Or.inr (hb h10).1
      · exact Or.inl (by simp [Rn.hasS]; omega)
    · by_cases he : els = []
      · exact Or.inr he
      · exact Or.inl (by have := ho he; simp [Rn.hasO]; omega)
    · by_cases h10 : d = 10
      · exact Or.inl (by omega)
      · exact Or.inr (h.L' h10)
  have h6 : x.E.length ≤ 6 := by
    by_cases h10 : d = 10
    · exact h.L h10
    · rw [h.L' h10]; unfold Rn.fewE; split <;> omega
  have hE : Rn.firstOf (Rn.ef n) x.E = 0 := by
    have hI := h.E
    generalize x.E = L at hI
    induction L with
    | nil => rfl
    | cons y r ih =>
      obtain ⟨z, rfl, z1, z2⟩ := hI y (by simp)
      simp only [Rn.firstOf]
      rw [if_neg (by simpa using z.ef z1 z2 n hn)]
      exact ih (fun w hw => hI w (by simp [hw]))
  unfold Rn.sf
  show (if Rn.formed _ = false then (5 : Int) else if 6 < x.E.length then 8 else if (Rn.hasA d = true ∧ Tk.isN x.A = false) ∨ (Rn.hasB d = true ∧ Tk.isN x.B = false) then 4 else if Rn.hasT d = true ∧ Rn.isT x.T 3 = false then 11
    else if x.n < 0 ∨ 1000000000000000000 ≤ x.n then 14 else if Rn.firstOf (Rn.ef n) x.E ≠ 0 then Rn.firstOf (Rn.ef n) x.E else if Rn.hasS d = true ∧ 8 ≤ deep then 7 else 0) = 0
  rw [if_neg (by rw [hfm]; simp), if_neg (by omega), if_neg ?_, if_neg ?_, if_neg (by have := h.k; omega), if_neg (by simpa using hE), if_neg ?_]
  · rintro ⟨hS, h8⟩
    simp [Rn.hasS] at hS
    have := hd (by omega)
    omega
  · rintro ⟨hT, hf⟩
    rw [h.T hT] at hf; cases hf
  · rintro (⟨hT, hf⟩ | ⟨hT, hf⟩)
    · rw [h.A hT] at hf; cases hf
    · rw [h.B hT] at hf; cases hf
end Go.Proofs.YtfngmdebmedkjacGreatDoor.Rb


/- What is parsed may be printed, but for its length. Plain. -/
namespace Go.Proofs.YtfngmdebmedkjacGreatDoor.Rb
open Go.Proofs.YtfngmdebmedkjacGreatDoor Go.Proofs.YtfngmdebmedkjacGreatDoor.Sx Go.Proofs.YtfngmdebmedkjacGreatDoor.Tk

theorem IE.one {d : Tr} (h : ∃ x : X, d = x.tr ∧ x.ok ∧ x.parts ≤ 20) : IE [d] := fun y hy => by rw [List.mem_singleton.1 hy]; exact h
theorem IE.nil : IE [] := fun y hy => by cases hy
theorem k0 : (0 : Int) ≤ 0 ∧ (0 : Int) < 1000000000000000000 := by decide
theorem plain_gd (e f d : Nat) (s : St) (ts : List Tok) (h1 : 1 ≤ d) (h10 : d ≤ 10) (h : Gt ts) : Gd (fun x s' => OkF d x ∧ sd s s') (plain e f d s ts) := by
  have c10 : d = 1 ∨ d = 2 ∨ d = 3 ∨ d = 4 ∨ d = 5 ∨ d = 6 ∨ d = 7 ∨ d = 8 ∨ d = 9 ∨ d = 10 := by omega
  unfold plain plainB
  rcases c10 with rfl | rfl | rfl | rfl | rfl | rfl | rfl | rfl | rfl | rfl
  · rw [if_neg (by decide)]
    refine (gd_name h).bnd fun A s1 r1 hr1 hq => ?_
    obtain ⟨rfl, hA⟩ := hq
    rw [if_pos (by decide)]
    refine (gd_skp hr1).bnd fun _ s2 r2 hr2 hq2 => (expr_gd e f s2 r2 hr2).bnd fun x s3 r3 hr3 hq3 => ⟨hr3, ?_, by subst hq2; exact hq3.2⟩
    exact ⟨fun _ => hA, fun h => absurd h (by decide), fun h => absurd h (by decide), fun _ => rfl, fun h => absurd h (by decide), fun _ => ⟨rfl, rfl⟩, k0, IE.one hq3.1, fun h => by omega, fun _ => rfl⟩
  · rw [if_neg (by decide)]
    refine (gd_name h).bnd fun A s1 r1 hr1 hq => ?_
    obtain ⟨rfl, hA⟩ := hq
    rw [if_pos (by decide)]
    refine (gd_skp hr1).bnd fun _ s2 r2 hr2 hq2 => (expr_gd e f s2 r2 hr2).bnd fun x s3 r3 hr3 hq3 => ⟨hr3, ?_, by subst hq2; exact hq3.2⟩
    exact ⟨fun _ => hA, fun h => absurd h (by decide), fun h => absurd h (by decide), fun _ => rfl, fun h => absurd h (by decide), fun _ => ⟨rfl, rfl⟩, k0, IE.one hq3.1, fun h => by omega, fun _ => rfl⟩
  · rw [if_pos rfl, if_neg (by decide), if_pos (by decide)]
    refine (expr_gd e f s ts h).bnd fun x s3 r3 hr3 hq3 => ⟨hr3, ?_, hq3.2⟩
    exact ⟨fun h => absurd h (by decide), fun _ => rfl, fun h => absurd h (by decide), fun _ => rfl, fun h => absurd h (by decide), fun _ => ⟨rfl, rfl⟩, k0, IE.one hq3.1, fun h => by omega, fun _ => rfl⟩
  · rw [if_neg (by decide)]
    refine (gd_name h).bnd fun A s1 r1 hr1 hq => ?_
    obtain ⟨rfl, hA⟩ := hq
    rw [if_neg (by decide), if_neg (by decide), if_pos rfl]
    refine (gd_name hr1).bnd fun B s2 r2 hr2 hq2 => (ty_gd e r2 [] s2 hr2 (by simp) (by simp)).bnd fun T s3 r3 hr3 hq3 => (gd_num hr3).bnd fun n s4 r4 hr4 hq4 => ⟨hr4, ?_, by rw [hq4.1, hq3.2, hq2.1]; exact sd.refl _⟩
    exact ⟨fun _ => hA, fun h => absurd h (by decide), fun _ => hq2.2, fun h => absurd h (by decide), fun _ => hq3.1, fun h => absurd h (by decide), hq4.2, IE.nil, fun h => by omega, fun _ => rfl⟩
  · rw [if_neg (by decide)]
    refine (gd_name h).bnd fun A s1 r1 hr1 hq => ?_
    obtain ⟨rfl, hA⟩ := hq
    rw [if_neg (by decide), if_neg (by decide), if_neg (by decide), if_pos rfl]
    refine (gd_name hr1).bnd fun B s2 r2 hr2 hq2 => ⟨hr2, ?_, by rw [hq2.1]; exact sd.refl _⟩
    exact ⟨fun _ => hA, fun h => absurd h (by decide), fun _ => hq2.2, fun h => absurd h (by decide), fun h => absurd h (by decide), fun _ => ⟨rfl, rfl⟩, k0, IE.nil, fun h => by omega, fun _ => rfl⟩
  · rw [if_neg (by decide)]
    refine (gd_name h).bnd fun A s1 r1 hr1 hq => ?_
    obtain ⟨rfl, hA⟩ := hq
    rw [if_neg (by decide), if_pos (by decide)]
    refine (expr_gd e f s1 r1 hr1).bnd fun x s3 r3 hr3 hq3 => ⟨hr3, ?_, hq3.2⟩
    exact ⟨fun _ => hA, fun h => absurd h (by decide), fun h => absurd h (by decide), fun _ => rfl, fun h => absurd h (by decide), fun _ => ⟨rfl, rfl⟩, k0, IE.one hq3.1, fun h => by omega, fun _ => rfl⟩
  · rw [if_neg (by decide)]
    refine (gd_name h).bnd fun A s1 r1 hr1 hq => ?_
    obtain ⟨rfl, hA⟩ := hq
    rw [if_neg (by decide), if_neg (by decide), if_neg (by decide), if_neg (by decide), if_neg (by decide)]
    exact ⟨hr1, ⟨fun _ => hA, fun h => absurd h (by decide), fun h => absurd h (by decide), fun _ => rfl, fun h => absurd h (by decide), fun _ => ⟨rfl, rfl⟩, k0, IE.nil, fun h => by omega, fun _ => rfl⟩, sd.refl _⟩
  · rw [if_neg (by decide)]
    refine (gd_name h).bnd fun A s1 r1 hr1 hq => ?_
    obtain ⟨rfl, hA⟩ := hq
    rw [if_neg (by decide), if_neg (by decide), if_neg (by decide), if_neg (by decide), if_neg (by decide)]
    exact ⟨hr1, ⟨fun _ => hA, fun h => absurd h (by decide), fun h => absurd h (by decide), fun _ => rfl, fun h => absurd h (by decide), fun _ => ⟨rfl, rfl⟩, k0, IE.nil, fun h => by omega, fun _ => rfl⟩, sd.refl _⟩
  · rw [if_neg (by decide)]
    refine (gd_name h).bnd fun A s1 r1 hr1 hq => ?_
    obtain ⟨rfl, hA⟩ := hq
    rw [if_neg (by decide), if_neg (by decide), if_neg (by decide), if_neg (by decide), if_neg (by decide)]
    exact ⟨hr1, ⟨fun _ => hA, fun h => absurd h (by decide), fun h => absurd h (by decide), fun _ => rfl, fun h => absurd h (by decide), fun _ => ⟨rfl, rfl⟩, k0, IE.nil, fun h => by omega, fun _ => rfl⟩, sd.refl _⟩
  · rw [if_neg (by decide)]
    refine (gd_name h).bnd fun A s1 r1 hr1 hq => ?_
    obtain ⟨rfl, hA⟩ := hq
    rw [if_neg (by decide), if_neg (by decide), if_neg (by decide), if_neg (by decide), if_pos rfl]
    refine (brk_gd (I := IE) (fun acc s ts h hI => arg_gd e f acc s ts h hI) IE.nil s1 r1 hr1).bnd fun l s2 r2 hr2 hq2 => ⟨hr2, ?_, hq2.2.2⟩
    exact ⟨fun _ => hA, fun h => absurd h (by decide), fun h => absurd h (by decide), fun _ => rfl, fun h => absurd h (by decide), fun _ => ⟨rfl, rfl⟩, k0, hq2.2.1, fun _ => hq2.1, fun h => absurd rfl h⟩
theorem nestA_gd (e f d : Nat) (s : St) (ts : List Tok) (h11 : 11 ≤ d) (h14 : d ≤ 14) (h : Gt ts) : Gd (fun x s' => OkF d x ∧ x.T = [] ∧ x.n = 0 ∧ sd s s') (nestA e f d s ts) := by
  have c4 : (d = 11 ∨ d = 12) ∨ (d = 13 ∨ d = 14) := by omega
  unfold nestA
  rcases c4 with hd | hd
  · rw [if_pos hd]
    refine (gd_name h).bnd fun A s1 r1 hr1 hq => (gd_skp hr1).bnd fun _ s2 r2 hr2 hq2 => (gd_name hr2).bnd fun B s3 r3 hr3 hq3 => ⟨hr3, ?_, rfl, rfl, by rw [hq3.1, hq2, hq.1]; exact sd.refl _⟩
    rcases hd with rfl | rfl
    · exact ⟨fun _ => hq.2, fun h => absurd h (by decide), fun _ => hq3.2, fun h => absurd h (by decide), fun h => absurd h (by decide), fun _ => ⟨rfl, rfl⟩, k0, IE.nil, fun h => by omega, fun _ => rfl⟩
    · exact ⟨fun _ => hq.2, fun h => absurd h (by decide), fun _ => hq3.2, fun h => absurd h (by decide), fun h => absurd h (by decide), fun _ => ⟨rfl, rfl⟩, k0, IE.nil, fun h => by omega, fun _ => rfl⟩
  · rw [if_neg (by omega)]
    refine (expr_gd e f s ts h).bnd fun x s3 r3 hr3 hq3 => ⟨hr3, ?_, rfl, rfl, hq3.2⟩
    rcases hd with rfl | rfl
    · exact ⟨fun h => absurd h (by decide), fun _ => rfl, fun h => absurd h (by decide), fun _ => rfl, fun h => absurd h (by decide), fun _ => ⟨rfl, rfl⟩, k0, IE.one hq3.1, fun h => by omega, fun _ => rfl⟩
    · exact ⟨fun h => absurd h (by decide), fun _ => rfl, fun h => absurd h (by decide), fun _ => rfl, fun h => absurd h (by decide), fun _ => ⟨rfl, rfl⟩, k0, IE.one hq3.1, fun h => by omega, fun _ => rfl⟩

/-- A block that may be printed. -/
def PB (s : St) (l : List Tr) (s' : St) : Prop := s'.dep = s.dep ∧ s'.stmts ≤ 300 ∧ ∀ n, 31 ≤ n + (s.dep + 1) → Rn.bf n (s.dep + 1) s.stmts l = .inl s'.stmts
def PS (s : St) (t : Tr) (s' : St) : Prop := s'.dep = s.dep ∧ s'.stmts ≤ 300 ∧ ∀ n, 30 ≤ n + s.dep → stp n s.dep s.stmts t = .inl s'.stmts
def PR (s : St) (l : List Tr) (s' : St) : Prop := s'.dep = s.dep ∧ s'.stmts ≤ 300 ∧ ∀ n, 30 ≤ n + s.dep → Rn.goS (stp n s.dep) s.stmts l = .inl s'.stmts
theorem doOf_le (x : List UInt8) : doOf x ≤ 14 := by
  unfold doOf
  split <;> omega
theorem ps_gd (e f : Nat) : (∀ (acc : List Tr) (s : St) (ts : List Tok), Gt ts → s.dep ≤ 8 → s.stmts ≤ 300 → Gd (PB s) (ps e f 0 acc s ts)) ∧
    (∀ (acc : List Tr) (s : St) (ts : List Tok), Gt ts → 1 ≤ s.dep → s.dep ≤ 8 → s.stmts ≤ 300 → Gd (fun l s' => ∃ t, l = [t] ∧ PS s t s') (ps e f 1 acc s ts)) ∧
    (∀ (acc : List Tr) (s : St) (ts : List Tok), Gt ts → 1 ≤ s.dep → s.dep ≤ 8 → s.stmts ≤ 300 → Gd (fun l s' => ∃ m, l = acc ++ m ∧ PR s m s') (ps e f 2 acc s ts)) := by
  induction f with
  | zero => exact ⟨fun _ _ _ _ _ _ => trivial, fun _ _ _ _ _ _ _ => trivial, fun _ _ _ _ _ _ _ => trivial⟩
  | succ f ih =>
    obtain ⟨ih0, ih1, ih2⟩ := ih
    refine ⟨fun acc s ts h hd hs => ?_, fun acc s ts h h1 hd hs => ?_, fun acc s ts h h1 hd hs => ?_⟩
    · rw [ps_0]
      refine Gd.ite (fun _ => trivial) fun hc => ?_
      unfold skp
      by_cases ht : txt ts = [123]
      · rw [if_pos ht, bnd_inl]
        have h8 : s.dep < 8 := by
          have : s.dep ≠ 8 := fun h8 => hc ⟨ht, h8⟩
          omega
        refine (ih2 [] s.up ts.tail h.tail (by show 1 ≤ s.dep + 1; omega) (by show s.dep + 1 ≤ 8; omega) hs).bnd fun l s1 r1 hr1 hq => (gd_skp hr1).bnd fun _ s2 r2 hr2 hq2 => ⟨hr2, ?_⟩
        subst hq2
        obtain ⟨m, rfl, q1, q2, q3⟩ := hq
        refine ⟨?_, q2, fun n hn => ?_⟩
        · show s2.dep - 1 = s.dep
          have : s2.dep = s.dep + 1 := q1
          omega
        · obtain ⟨n, rfl⟩ : ∃ j, n = j + 1 := ⟨n - 1, by omega⟩
          rw [bf_succ]
          exact q3 n (by show 30 ≤ n + (s.dep + 1); omega)
      · rw [if_neg ht]; trivial
    · rw [ps_1]
      refine Gd.ite (fun _ => trivial) fun hd0 => Gd.ite (fun _ => trivial) fun h300 => Gd.ite (fun h11 => ?_) fun h11 => ?_
      · refine (plain_gd e f (doOf (txt ts)) s.stmt ts.tail (by omega) (by omega) h.tail).bnd fun x s1 r1 hr1 hq => (gd_skp hr1).bnd fun _ s2 r2 hr2 hq2 => ⟨hr2, _, rfl, ?_⟩
        subst hq2
        obtain ⟨q1, q2, q3⟩ := hq
        have q2' : s2.stmts = s.stmts + 1 := q2
        refine ⟨q3, by omega, fun n hn => ?_⟩
        unfold stp
        rw [if_neg (by omega), if_neg (by rw [sf_ok n s.dep _ _ x [] [] (by omega) (by omega) (by omega) q1 (fun _ => ⟨rfl, rfl⟩) (fun h => absurd rfl h) (fun h => by omega)]; simp)]
        show Rn.thn (Rn.bf n (s.dep + 1) (s.stmts + 1) []) (fun b => Rn.bf n (s.dep + 1) b []) = _
        rw [bf_nil]
        show Rn.bf n (s.dep + 1) (s.stmts + 1) [] = _
        rw [bf_nil, q2']
      · have h14 := doOf_le (txt ts)
        refine (nestA_gd e f (doOf (txt ts)) s.stmt ts.tail (by omega) h14 h.tail).bnd fun x s1 r1 hr1 hq => ?_
        obtain ⟨q1, qT, qn, q2, q3⟩ := hq
        have q2' : s1.stmts = s.stmts + 1 := q2
        have q3' : s1.dep = s.dep := q3
        -- the body's first sign: a block may be opened only where there are less than 8
        by_cases h8 : s1.dep = 8 ∧ True
        · cases f with
          | zero => trivial
          | succ f =>
            rw [ps_0]
            by_cases ht : txt r1 = [123]
            · rw [if_pos ⟨ht, h8.1⟩]; trivial
            · rw [if_neg (fun hc => ht hc.1)]; unfold skp; rw [if_neg ht]; trivial
        · have hlt : s.dep < 8 := by
            have : s1.dep ≠ 8 := fun hh => h8 ⟨hh, trivial⟩
            omega
          refine (ih0 [] s1 r1 hr1 (by omega) (by omega)).bnd fun body s2 r2 hr2 hq2 => ?_
          obtain ⟨b1, b2, b3⟩ := hq2
          refine Gd.bnd (Q := fun els s' => (els ≠ [] → doOf (txt ts) = 11 ∨ doOf (txt ts) = 14) ∧ PB s2 els s') (Gd.ite (fun hc => ?_) fun hc => ⟨hr2, fun h => absurd rfl h, rfl, b2, fun n hn => bf_nil _ _ _⟩) fun els s3 r3 hr3 hq3 => ⟨hr3, _, rfl, ?_⟩
          · refine (gd_skp hr2).bnd fun _ s3 r3 hr3 hq3 => ?_
            subst hq3
            exact (ih0 [] s3 r3 hr3 (by omega) b2).mono fun l s' hl => ⟨fun _ => hc.1, hl⟩
          · obtain ⟨e1, c1, c2, c3⟩ := hq3
            refine ⟨by omega, c2, fun n hn => ?_⟩
            unfold stp
            have hsf := sf_ok n s.dep (doOf (txt ts)) (place e ts) x body els (by omega) (by omega) h14 q1 (fun h => by omega) e1 (fun _ => hlt)
            rw [qT, qn] at hsf
            rw [if_neg (by omega), if_neg (by rw [hsf]; simp)]
            show Rn.thn (Rn.bf n (s.dep + 1) (s.stmts + 1) body) (fun b => Rn.bf n (s.dep + 1) b els) = _
            have f1 := b3 n (by omega)
            have f2 := c3 n (by omega)
            rw [q2', q3'] at f1
            rw [show s2.dep = s.dep by omega] at f2
            rw [f1]
            exact f2
    · rw [ps_2]
      refine Gd.ite (fun _ => ⟨h, [], by simp, rfl, hs, fun n hn => rfl⟩) fun _ => ?_
      refine (ih1 [] s ts h h1 hd hs).bnd fun l s1 r1 hr1 hq => ?_
      obtain ⟨t, rfl, q1, q2, q3⟩ := hq
      refine (ih2 (acc ++ [t]) s1 r1 hr1 (by omega) (by omega) q2).mono ?_
      rintro l s' ⟨m, rfl, c1, c2, c3⟩
      refine ⟨t :: m, by simp, by omega, c2, fun n hn => ?_⟩
      have f1 := q3 n hn
      have f2 := c3 n (by omega)
      rw [q1] at f2
      show Rn.thn (stp n s.dep s.stmts t) (fun b => Rn.goS (stp n s.dep) b m) = _
      rw [f1]
      exact f2
end Go.Proofs.YtfngmdebmedkjacGreatDoor.Rb


/- What is parsed may be printed, but for its length: programs; the tokens of a text. Plain. -/
namespace Go.Proofs.YtfngmdebmedkjacGreatDoor.Rb
open Go.Proofs.YtfngmdebmedkjacGreatDoor Go.Proofs.YtfngmdebmedkjacGreatDoor.Sx Go.Proofs.YtfngmdebmedkjacGreatDoor.Tk

def PT (ts : List Tok) (s : St) (g : Tr) (s' : St) : Prop := txt ts = wStage ∧ Rn.hf g = 0 ∧ s'.dep = 0 ∧ s'.stmts ≤ 300 ∧ ∀ n, 30 ≤ n → Rn.bf n 1 s.stmts (gB g) = .inl s'.stmts
theorem stage_gd (e f : Nat) (s : St) (ts : List Tok) (h : Gt ts) (hd : s.dep = 0) (hs : s.stmts ≤ 300) : Gd (PT ts s) (stage e f s ts) := by
  unfold stage
  by_cases ht : txt ts = wStage
  · refine (gd_skp h).bnd fun _ s1 r1 hr1 hq => (gd_name hr1).bnd fun nm s2 r2 hr2 hq2 => (brk_gd (I := IP) (fun acc s ts h hI => par_gd e acc s ts h hI) (fun y hy => by cases hy) s2 r2 hr2).bnd fun l s3 r3 hr3 hq3 => ?_
    subst hq
    obtain ⟨rfl, hN⟩ := hq2
    obtain ⟨l6, lI, l3, l4⟩ := hq3
    refine ((ps_gd e f).1 [] s3 r3 hr3 (by omega) (by omega)).bnd fun body s4 r4 hr4 hq4 => ⟨hr4, ht, ?_, ?_, hq4.2.1, fun n hn => ?_⟩
    · unfold Rn.hf
      rw [if_neg (by show ¬ Tk.isN nm = false; rw [hN]; simp), if_neg (by show ¬ 6 < l.length; omega)]
      show Rn.firstOf _ l = 0
      clear l6
      induction l with
      | nil => rfl
      | cons p r ih =>
        simp only [Rn.firstOf]
        obtain ⟨p1, p2⟩ := lI p (by simp)
        rw [if_neg (by rw [p1, p2]; simp)]
        exact ih (fun q hq => lI q (by simp [hq]))
    · have := hq4.1; omega
    · have := hq4.2.2 n (by omega)
      rw [show s3.dep = 0 by omega, l3] at this
      exact this
  · unfold skp; rw [if_neg ht]; trivial
theorem stages_gd (e f k : Nat) : ∀ (acc : List Tr) (s : St) (ts : List Tok), Gt ts → s.dep = 0 → s.stmts ≤ 300 → acc.length ≤ 10 →
    Gd (fun l s' => ∃ m, l = acc ++ m ∧ l.length ≤ 10 ∧ ∀ n i, 30 ≤ n → Rn.gf n i s.stmts m = .inl s'.stmts) (stages e f k acc s ts) := by
  induction k with
  | zero => intro acc s ts _ _ _ _; trivial
  | succ k ih =>
    intro acc s ts h hd hs hl
    unfold stages
    refine Gd.ite (fun _ => ⟨h, [], by simp, hl, fun n i hn => rfl⟩) fun _ => Gd.ite (fun _ => trivial) fun hc => ?_
    refine (stage_gd e f s ts h hd hs).bnd fun g s1 r1 hr1 hq => ?_
    obtain ⟨q0, q1, q2, q3, q4⟩ := hq
    have hlt : acc.length ≠ 10 := fun h10 => hc ⟨h10, q0⟩
    refine (ih (acc ++ [g]) s1 r1 hr1 q2 q3 (by simp; omega)).mono ?_
    rintro l s' ⟨m, rfl, c1, c2⟩
    refine ⟨g :: m, by simp, c1, fun n i hn => ?_⟩
    show (if Rn.hf g ≠ 0 then _ else Rn.thn (Rn.bf n 1 s.stmts (gB g)) fun b => Rn.gf n (i + 1) b m) = _
    rw [if_neg (by simpa using q1), q4 n hn]
    exact c2 n (i + 1) hn
theorem prog_gd (e f k : Nat) (ts : List Tok) (h : Gt ts) : Gd (fun l _ => ∀ n, 30 ≤ n → Rn.pf n l = (0, 0)) (prog e f k ts) := by
  unfold prog
  refine (stage_gd e f s0 ts h rfl (by decide)).bnd fun g s1 r1 hr1 hq => ?_
  obtain ⟨q0, q1, q2, q3, q4⟩ := hq
  refine (stages_gd e f k [g] s1 r1 hr1 q2 q3 (by simp)).mono ?_
  rintro l s' ⟨m, rfl, c1, c2⟩ n hn
  unfold Rn.pf
  rw [if_neg (by simp), if_neg (by omega)]
  have : Rn.gf n 0 0 ([g] ++ m) = .inl s'.stmts := by
    show (if Rn.hf g ≠ 0 then _ else Rn.thn (Rn.bf n 1 0 (gB g)) fun b => Rn.gf n (0 + 1) b m) = _
    rw [if_neg (by simpa using q1), show Rn.bf n 1 0 (gB g) = .inl s1.stmts from q4 n hn]
    exact c2 n (0 + 1) hn
  rw [this]

theorem val_bound (l : List UInt8) : ∀ (m n : Int), 0 ≤ m → val m l = some n → 0 ≤ n ∧ n < (m + 1) * 10 ^ l.length := by
  induction l with
  | nil => intro m n hm h; simp only [val, Option.some.injEq] at h; subst h; simp; omega
  | cons b t ih =>
    intro m n hm h
    simp only [val] at h
    by_cases hb : isD b = true
    · rw [if_pos hb] at h
      have hb' : 48 ≤ b.toNat ∧ b.toNat ≤ 57 := by simpa [isD] using hb
      obtain ⟨h1, h2⟩ := ih _ n (by omega) h
      refine ⟨h1, Int.lt_of_lt_of_le h2 ?_⟩
      rw [List.length_cons, Int.pow_succ, Int.mul_comm (10 ^ t.length) 10, ← Int.mul_assoc]
      exact Int.mul_le_mul_of_nonneg_right (by omega) (Int.pow_nonneg (by decide))
    · rw [if_neg hb] at h; cases h
theorem run_take (l : List UInt8) : run (l.take (run l)) = run l := by
  induction l with
  | nil => rfl
  | cons b t ih =>
    by_cases hb : (isL b || isD b) = true
    · simp only [run, hb, if_true, List.take_succ_cons, ih]
    · simp only [run, hb, if_false, List.take_zero, Bool.false_eq_true]
theorem tok_good (l : List UInt8) : ((tok l).kind = 2 → Tk.isN (l.take (tok l).len) = true) ∧ ((tok l).kind = 3 → 0 ≤ (tok l).n ∧ (tok l).n < 1000000000000000000) := by
  unfold tok
  by_cases hr : 0 < run l
  · rw [if_pos hr]
    have hle := run_le l
    have hlen : (l.take (run l)).length = run l := by simp; omega
    by_cases hD : isD (l.headD 0) = true
    · rw [if_pos hD]
      unfold numAns
      cases hn : Tk.numOf (l.take (run l)) with
      | none => simp
      | some n =>
        refine ⟨fun h => by simp at h, fun _ => ?_⟩
        unfold Tk.numOf at hn
        by_cases hc : 18 < (l.take (run l)).length ∨ (1 < (l.take (run l)).length ∧ (l.take (run l)).head? = some 48)
        · rw [if_pos hc] at hn; cases hn
        rw [if_neg hc] at hn
        obtain ⟨h1, h2⟩ := val_bound _ 0 n (by decide) hn
        refine ⟨h1, Int.lt_of_lt_of_le h2 ?_⟩
        have h18 : (l.take (run l)).length ≤ 18 := by omega
        have hp : (10 : Nat) ^ (l.take (run l)).length ≤ 10 ^ 18 := Nat.pow_le_pow_right (by decide) h18
        have : ((10 ^ (l.take (run l)).length : Nat) : Int) ≤ ((10 ^ 18 : Nat) : Int) := Int.ofNat_le.2 hp
        simpa using this
    · rw [if_neg hD]
      unfold nameAns
      by_cases hW : isW (l.take (run l)) = true
      · rw [if_pos hW]; simp
      rw [if_neg hW]
      by_cases h12 : 12 < (l.take (run l)).length
      · rw [if_pos h12]; simp
      rw [if_neg h12]
      refine ⟨fun _ => ?_, fun h => by simp at h⟩
      show Tk.isN (l.take (l.take (run l)).length) = true
      rw [hlen]
      unfold Tk.isN
      rw [hlen, run_take]
      have hL : isL ((l.take (run l)).headD 0) = true := by
        cases l with
        | nil => simp [run] at hr
        | cons b t =>
          simp only [run] at hr ⊢
          by_cases hb : (isL b || isD b) = true
          · simp only [hb, if_true, List.take_succ_cons, List.headD_cons]
            simp only [List.headD_cons] at hD
            simpa [hD] using hb
          · rw [if_neg hb] at hr; omega
      rw [hL]
      have hW' : isW (l.take (run l)) = false := by simpa using hW
      rw [hW']
      simp; omega
  · rw [if_neg hr]
    unfold signAns
    split
    · simp
    · simp
    · split <;> simp
theorem tl_good (f : Nat) : ∀ (p : Nat) (l : List UInt8), Gt (tl f p l).1 := by
  induction f with
  | zero => intro p l t ht; simp [tl] at ht
  | succ f ih =>
    intro p l
    cases l with
    | nil => intro t ht; simp [tl] at ht
    | cons b r =>
      by_cases hc : (tok (b :: r)).code = 0
      · rw [tok_at (b :: r) p f (by simp) hc]
        dsimp only
        split
        · intro t ht; simp at ht
        · intro t ht
          rcases List.mem_cons.1 ht with rfl | ht
          · exact tok_good (b :: r)
          · exact ih _ _ t ht
      · rw [tok_bad (b :: r) p f (by simp) hc]
        intro t ht; simp at ht
theorem scan_good (l : List UInt8) : Gt (Tk.scan l).1 := by
  unfold Tk.scan
  split
  · intro t ht; simp at ht
  · exact tl_good _ _ _
/-- BACK AND THERE, its first half: in what is parsed nothing is wrong but, it may be, its text's length. -/
theorem parsed_pf (e f k : Nat) (x : List UInt8) (l : List Tr) (s : St) (r : List Tok) (h : prog e f k (Tk.scan x).1 = .inl (l, s, r)) (n : Nat) (hn : 30 ≤ n) : Rn.pf n l = (0, 0) := by
  have := prog_gd e f k _ (scan_good x)
  rw [h] at this
  exact this.2 n hn
end Go.Proofs.YtfngmdebmedkjacGreatDoor.Rb

import Derived.Test.YtdnlnpdaplonfabDoorPlC
import Derived.Test.YtdnlnpdaplonfabDoorPlA
import Derived.Test.YtdnlnpdaplonfabDoorSynQa
/- What goes wrong in tokens goes wrong in them with more behind. -/
namespace Go.Proofs.YtdnlnpdaplonfabDoor.Sx
open Go.Proofs.YtdnlnpdaplonfabDoor.Tk

/-- Read of nothing: nothing is left, or it is too short. -/
def Emp {α : Type} : Rs α → Prop
  | .inl (_, _, r) => r = []
  | .inr (c, _, _) => c ≠ 5 ∧ c ≠ 7
theorem Emp.bnd {α β : Type} {m : Rs α} {k : α → St → List Tok → Rs β} (h : Emp m) (hk : ∀ x s, Emp (k x s [])) : Emp (bnd m k) := by
  cases m with
  | inl p => obtain ⟨x, s, r⟩ := p; cases h; exact hk _ _
  | inr p => exact h
theorem emp_out {α : Type} {p : Int} {r : List Tok} : Emp (.inr (99, p, r) : Rs α) := by simp [Emp]
theorem emp_unfit {α : Type} {e : Nat} : Emp (unfit e [] : Rs α) := by simp [Emp, unfit, bad, ucode]
theorem emp_skp {e : Nat} {b : UInt8} {x : List UInt8} {s : St} : Emp (skp e (b :: x) s []) := by
  unfold skp
  rw [if_neg (by simp [txt])]
  exact emp_unfit
theorem emp_name {e : Nat} {s : St} : Emp (nameOf e s []) := emp_unfit
theorem emp_num {e : Nat} {s : St} : Emp (numOf e s []) := emp_unfit
theorem emp_pe (e f g : Nat) (x : Tr) (s : St) : Emp (pe e f g x s []) := by
  induction f generalizing g x s with
  | zero => exact emp_out
  | succ f ih =>
    rcases pe_kinds g with rfl | rfl | rfl | rfl | rfl | hg
    · rw [pe_0]
      refine ((ih _ _ _).bnd fun x s1 => ?_).bnd fun z s3 => ?_
      · simp [txt, Emp]
      · split
        · simp [Emp]
        · rfl
    · rw [pe_1]; exact (ih _ _ _).bnd fun x s1 => ih _ _ _
    · rw [pe_2]; exact (ih _ _ _).bnd fun x s1 => ih _ _ _
    · rw [pe_4]; simp [txt, Emp]
    · rw [pe_5]; simp [txt, Emp]
    · rw [pe_u _ _ _ _ _ _ hg, if_neg (by simp [txt]), if_neg (by simp [txt]), if_neg (by simp [hasKind])]
      exact emp_name.bnd fun _ _ => rfl
theorem emp_ty (e : Nat) (acc : List UInt8) (s : St) : Emp (ty e acc s []) := emp_unfit
theorem emp_brkL {σ : Type} (e : Nat) (one : σ → St → List Tok → Rs σ) (k n : Nat) (acc : σ) (s : St) : Emp (brkL e one k n acc s []) := by
  cases k with
  | zero => exact emp_out
  | succ k => simp [brkL, txt, Emp]
theorem emp_brk {σ : Type} (e : Nat) (one : σ → St → List Tok → Rs σ) (h1 : ∀ a s, Emp (one a s [])) (acc : σ) (s : St) : Emp (brk e one acc s []) := by
  unfold brk
  refine emp_skp.bnd fun _ _ => Emp.bnd ?_ fun _ _ => emp_skp.bnd fun _ _ => rfl
  rw [if_neg (by simp [txt])]
  exact (h1 _ _).bnd fun _ _ => emp_brkL _ _ _ _ _ _
theorem emp_par (e : Nat) (acc : List Tr) (s : St) : Emp (parOne e acc s []) := emp_name.bnd fun _ _ => (emp_ty _ _ _).bnd fun _ _ => rfl
theorem emp_arg (e f : Nat) (acc : List Tr) (s : St) : Emp (argOne e f acc s []) := (emp_pe _ _ _ _ _).bnd fun _ _ => rfl
theorem emp_plainB (e f d : Nat) (A : List UInt8) (s : St) : Emp (plainB e f d A s []) := by
  unfold plainB
  split
  · exact emp_skp.bnd fun _ _ => (emp_pe _ _ _ _ _).bnd fun _ _ => rfl
  · split
    · exact (emp_pe _ _ _ _ _).bnd fun _ _ => rfl
    · split
      · exact emp_name.bnd fun _ _ => (emp_ty _ _ _).bnd fun _ _ => emp_num.bnd fun _ _ => rfl
      · split
        · exact emp_name.bnd fun _ _ => rfl
        · split
          · exact (emp_brk _ _ (fun a s => emp_arg _ _ a s) _ _).bnd fun _ _ => rfl
          · rfl
theorem emp_plain (e f d : Nat) (s : St) : Emp (plain e f d s []) := by
  unfold plain
  split
  · exact emp_plainB _ _ _ _ _
  · exact emp_name.bnd fun _ _ => emp_plainB _ _ _ _ _
theorem emp_nestA (e f d : Nat) (s : St) : Emp (nestA e f d s []) := by
  unfold nestA
  split
  · exact emp_name.bnd fun _ _ => emp_skp.bnd fun _ _ => emp_name.bnd fun _ _ => rfl
  · exact (emp_pe _ _ _ _ _).bnd fun _ _ => rfl
theorem doOf_nil : doOf (txt []) = 0 := by decide
theorem emp_ps (e f g : Nat) (acc : List Tr) (s : St) : Emp (ps e f g acc s []) := by
  cases f with
  | zero => exact emp_out
  | succ f =>
    match g with
    | 0 =>
      rw [ps_0, if_neg (by simp [txt])]
      exact Emp.bnd emp_skp fun _ _ => by
        cases f with
        | zero => exact emp_out
        | succ f =>
          rw [ps_2 _ _ _ _ _ _ (Nat.le_refl _), if_neg (by simp [txt])]
          cases f with
          | zero => exact emp_out
          | succ f =>
            rw [ps_1, if_pos doOf_nil]
            exact emp_unfit
    | 1 =>
      rw [ps_1, if_pos doOf_nil]
      exact emp_unfit
    | g + 2 =>
      rw [ps_2 _ _ _ _ _ _ (by omega), if_neg (by simp [txt])]
      cases f with
      | zero => exact emp_out
      | succ f =>
        rw [ps_1, if_pos doOf_nil]
        exact emp_unfit
theorem emp_stages (e f k : Nat) (acc : List Tr) (s : St) : Emp (stages e f k acc s []) := by
  cases k with
  | zero => exact emp_out
  | succ k => simp [stages, Emp]

/-- With more behind. -/
def FE {α : Type} (us : List Tok) (m m' : Rs α) : Prop := match m with
  | .inl (x, s, r) => r ≠ [] → m' = .inl (x, s, r ++ us)
  | .inr (c, p, r) => c = 5 ∨ c = 7 → m' = .inr (c, p, r ++ us)
theorem Emp.fe {α : Type} {us : List Tok} {m m' : Rs α} (h : Emp m) : FE us m m' := by
  cases m with
  | inl p => exact fun hr => absurd h hr
  | inr p => exact fun hc => by rcases hc with hc | hc; exact absurd hc h.1; exact absurd hc h.2
theorem FE.bnd {α β : Type} {us : List Tok} {m m' : Rs α} {k k' : α → St → List Tok → Rs β} (h : FE us m m') (hk : ∀ x s r, r ≠ [] → FE us (k x s r) (k' x s (r ++ us))) (he : ∀ x s, Emp (k x s [])) : FE us (bnd m k) (bnd m' k') := by
  cases m with
  | inl p =>
    obtain ⟨x, s, r⟩ := p
    by_cases hr : r = []
    · subst hr; exact (he x s).fe
    · have hm : m' = _ := h hr
      rw [hm]
      exact hk x s r hr
  | inr p =>
    obtain ⟨c, q, r⟩ := p
    intro hc
    have hm : m' = _ := h hc
    rw [hm]
    rfl
theorem fe_rfl {α : Type} {us r : List Tok} {x : α} {s : St} : FE us (.inl (x, s, r)) (.inl (x, s, r ++ us)) := fun _ => rfl
theorem fe_out {α : Type} {us : List Tok} {m' : Rs α} : FE us (.inr (99, 0, [])) m' := fun h => by rcases h with h | h <;> cases h
theorem fe_unfit {α : Type} {us ts : List Tok} {e e' : Nat} (h : ts ≠ []) : FE us (unfit e ts : Rs α) (unfit e' (ts ++ us)) := by
  cases ts with
  | nil => exact absurd rfl h
  | cons t r => exact fun _ => rfl
theorem fe_bad {α : Type} {us ts : List Tok} {e e' : Nat} {c : Int} (h : ts ≠ []) : FE us (bad c e ts : Rs α) (bad c e' (ts ++ us)) := by
  cases ts with
  | nil => exact absurd rfl h
  | cons t r => exact fun _ => rfl
theorem fe_skp {us ts : List Tok} {e e' : Nat} {x : List UInt8} {s : St} (h : ts ≠ []) : FE us (skp e x s ts) (skp e' x s (ts ++ us)) := by
  unfold skp
  rw [txt_app h, tail_app h]
  split
  · exact fe_rfl
  · exact fe_unfit h
theorem fe_tokOf {us ts : List Tok} {e e' : Nat} {k : Int} {s : St} (h : ts ≠ []) : FE us (tokOf e k s ts) (tokOf e' k s (ts ++ us)) := by
  cases ts with
  | nil => exact absurd rfl h
  | cons t r =>
    simp only [tokOf, List.cons_append]
    split
    · exact fe_rfl
    · exact fun _ => rfl
theorem fe_name {us ts : List Tok} {e e' : Nat} {s : St} (h : ts ≠ []) : FE us (nameOf e s ts) (nameOf e' s (ts ++ us)) := (fe_tokOf h).bnd (fun _ _ _ _ => fe_rfl) (fun _ _ => rfl)
theorem fe_num {us ts : List Tok} {e e' : Nat} {s : St} (h : ts ≠ []) : FE us (numOf e s ts) (numOf e' s (ts ++ us)) := (fe_tokOf h).bnd (fun _ _ _ _ => fe_rfl) (fun _ _ => rfl)
theorem fe_ent {us ts : List Tok} {e e' : Nat} {s : St} (h : ts ≠ []) : FE us (ent e s ts) (ent e' s (ts ++ us)) := by
  unfold ent
  rw [tail_app h]
  split
  · exact fe_bad h
  · exact fe_rfl
theorem FE.join {us : List Tok} {op : Int} {x : Tr} {m m' : Rs Tr} (h : FE us m m') : FE us (join op x m) (join op x m') := h.bnd (fun _ _ _ _ => fe_rfl) (fun _ _ => rfl)
theorem tail_fe {us ts : List Tok} {α : Type} {k k' : List Tok → Rs α} (h1 : ts.tail ≠ [] → FE us (k ts.tail) (k' (ts.tail ++ us))) (h2 : Emp (k [])) : FE us (k ts.tail) (k' (ts.tail ++ us)) := by
  by_cases h : ts.tail = []
  · rw [h]; exact h2.fe
  · exact h1 h
theorem fe_pe (e e' : Nat) (us : List Tok) (f g : Nat) (x : Tr) (s : St) (ts : List Tok) (h : ts ≠ []) : FE us (pe e f g x s ts) (pe e' f g x s (ts ++ us)) := by
  induction f generalizing g x s ts with
  | zero => exact fe_out
  | succ f ih =>
    rcases pe_kinds g with rfl | rfl | rfl | rfl | rfl | hg
    · rw [pe_0, pe_0]
      refine FE.bnd (FE.bnd (ih _ _ _ _ h) (fun y s1 r1 h1 => ?_) (fun y s1 => ?_)) (fun z s3 r3 h3 => ?_) (fun z s3 => ?_)
      · rw [txt_app h1, tail_app h1]
        split
        · exact (tail_fe (k := fun t => pe e f 1 d0 s1 t) (k' := fun t => pe e' f 1 d0 s1 t) (fun h => ih _ _ _ _ h) (emp_pe _ _ _ _ _)).join
        · split
          · exact (tail_fe (k := fun t => pe e f 1 d0 s1 t) (k' := fun t => pe e' f 1 d0 s1 t) (fun h => ih _ _ _ _ h) (emp_pe _ _ _ _ _)).join
          · exact fe_rfl
      · simp [txt, Emp]
      · split
        · exact fun hc => by rcases hc with hc | hc <;> cases hc
        · exact fe_rfl
      · split
        · simp [Emp]
        · rfl
    · rw [pe_1, pe_1]
      exact FE.bnd (ih _ _ _ _ h) (fun y s1 r1 h1 => ih _ _ _ _ h1) (fun _ _ => emp_pe _ _ _ _ _)
    · rw [pe_2, pe_2]
      exact FE.bnd (ih _ _ _ _ h) (fun y s1 r1 h1 => ih _ _ _ _ h1) (fun _ _ => emp_pe _ _ _ _ _)
    · rw [pe_4, pe_4, txt_app h, tail_app h]
      split
      · exact FE.bnd (tail_fe (k := fun t => pe e f 2 d0 s t) (k' := fun t => pe e' f 2 d0 s t) (fun h => ih _ _ _ _ h) (emp_pe _ _ _ _ _)).join (fun y s1 r1 h1 => ih _ _ _ _ h1) (fun _ _ => emp_pe _ _ _ _ _)
      · split
        · exact FE.bnd (tail_fe (k := fun t => pe e f 2 d0 s t) (k' := fun t => pe e' f 2 d0 s t) (fun h => ih _ _ _ _ h) (emp_pe _ _ _ _ _)).join (fun y s1 r1 h1 => ih _ _ _ _ h1) (fun _ _ => emp_pe _ _ _ _ _)
        · exact fe_rfl
    · rw [pe_5, pe_5, txt_app h, tail_app h]
      split
      · exact FE.bnd (tail_fe (k := fun t => pe e f 3 d0 s t) (k' := fun t => pe e' f 3 d0 s t) (fun h => ih _ _ _ _ h) (emp_pe _ _ _ _ _)).join (fun y s1 r1 h1 => ih _ _ _ _ h1) (fun _ _ => emp_pe _ _ _ _ _)
      · exact fe_rfl
    · rw [pe_u _ _ _ _ _ _ hg, pe_u _ _ _ _ _ _ hg, txt_app h, kind_app 3 h]
      split
      · exact FE.bnd (fe_ent h) (fun _ _ _ h => FE.bnd (ih _ _ _ _ h) (fun _ _ _ h => FE.bnd (fe_skp h) (fun _ _ _ _ => fe_rfl) (fun _ _ => rfl)) (fun _ _ => emp_skp.bnd fun _ _ => rfl)) (fun _ _ => (emp_pe _ _ _ _ _).bnd fun _ _ => emp_skp.bnd fun _ _ => rfl)
      · split
        · exact FE.bnd (fe_ent h) (fun _ _ _ h => FE.bnd (ih _ _ _ _ h) (fun _ _ _ _ => fe_rfl) (fun _ _ => rfl)) (fun _ _ => (emp_pe _ _ _ _ _).bnd fun _ _ => rfl)
        · split
          · exact FE.bnd (fe_num h) (fun _ _ _ _ => fe_rfl) (fun _ _ => rfl)
          · exact FE.bnd (fe_name h) (fun _ _ _ _ => fe_rfl) (fun _ _ => rfl)
theorem fe_ty (e e' : Nat) (us : List Tok) (acc : List UInt8) (s : St) (ts : List Tok) (h : ts ≠ []) : FE us (ty e acc s ts) (ty e' acc s (ts ++ us)) := by
  induction ts generalizing acc with
  | nil => exact absurd rfl h
  | cons t r ih =>
    simp only [ty, List.cons_append]
    split
    · split
      · exact fun _ => rfl
      · by_cases hr : r = []
        · subst hr; exact (emp_ty _ _ _).fe
        · exact ih _ hr
    · exact FE.bnd (fe_skp (ts := t :: r) (by simp)) (fun _ _ _ _ => fe_rfl) (fun _ _ => rfl)
theorem fe_brkL {σ : Type} (e e' : Nat) (us : List Tok) (one one' : σ → St → List Tok → Rs σ) (h1 : ∀ a s r, r ≠ [] → FE us (one a s r) (one' a s (r ++ us))) (h2 : ∀ a s, Emp (one a s [])) (k n : Nat) (acc : σ) (s : St) (ts : List Tok) (h : ts ≠ []) : FE us (brkL e one k n acc s ts) (brkL e' one' k n acc s (ts ++ us)) := by
  induction k generalizing n acc s ts with
  | zero => exact fe_out
  | succ k ih =>
    simp only [brkL]
    rw [txt_app h, tail_app h]
    split
    · split
      · exact fun hc => by rcases hc with hc | hc <;> cases hc
      · exact FE.bnd (tail_fe (k := fun t => one acc s t) (k' := fun t => one' acc s t) (fun h => h1 _ _ _ h) (h2 _ _)) (fun _ _ _ h => ih _ _ _ _ h) (fun _ _ => emp_brkL _ _ _ _ _ _)
    · exact fe_rfl
theorem fe_brk {σ : Type} (e e' : Nat) (us : List Tok) (one one' : σ → St → List Tok → Rs σ) (h1 : ∀ a s r, r ≠ [] → FE us (one a s r) (one' a s (r ++ us))) (h2 : ∀ a s, Emp (one a s [])) (acc : σ) (s : St) (ts : List Tok) (h : ts ≠ []) : FE us (brk e one acc s ts) (brk e' one' acc s (ts ++ us)) := by
  unfold brk
  refine FE.bnd (fe_skp h) (fun _ s1 r1 h1' => FE.bnd ?_ (fun _ _ _ h => FE.bnd (fe_skp h) (fun _ _ _ _ => fe_rfl) (fun _ _ => rfl)) (fun _ _ => emp_skp.bnd fun _ _ => rfl)) (fun _ s1 => Emp.bnd ?_ fun _ _ => emp_skp.bnd fun _ _ => rfl)
  · rw [txt_app h1']
    split
    · exact fe_rfl
    · exact FE.bnd (h1 _ _ _ h1') (fun _ _ _ h => fe_brkL e e' us one one' h1 h2 _ _ _ _ _ h) (fun _ _ => emp_brkL _ _ _ _ _ _)
  · rw [if_neg (by simp [txt])]
    exact (h2 _ _).bnd fun _ _ => emp_brkL _ _ _ _ _ _
theorem fe_par (e e' : Nat) (us : List Tok) (acc : List Tr) (s : St) (ts : List Tok) (h : ts ≠ []) : FE us (parOne e acc s ts) (parOne e' acc s (ts ++ us)) :=
  FE.bnd (fe_name h) (fun _ _ _ h => FE.bnd (fe_ty _ _ _ _ _ _ h) (fun _ _ _ _ => fe_rfl) (fun _ _ => rfl)) (fun _ _ => (emp_ty _ _ _).bnd fun _ _ => rfl)
theorem fe_arg (e e' f : Nat) (us : List Tok) (acc : List Tr) (s : St) (ts : List Tok) (h : ts ≠ []) : FE us (argOne e f acc s ts) (argOne e' f acc s (ts ++ us)) :=
  FE.bnd (fe_pe _ _ _ _ _ _ _ _ h) (fun _ _ _ _ => fe_rfl) (fun _ _ => rfl)
theorem fe_plainB (e e' f d : Nat) (us : List Tok) (A : List UInt8) (s : St) (ts : List Tok) (h : ts ≠ []) : FE us (plainB e f d A s ts) (plainB e' f d A s (ts ++ us)) := by
  unfold plainB
  split
  · exact FE.bnd (fe_skp h) (fun _ _ _ h => FE.bnd (fe_pe _ _ _ _ _ _ _ _ h) (fun _ _ _ _ => fe_rfl) (fun _ _ => rfl)) (fun _ _ => (emp_pe _ _ _ _ _).bnd fun _ _ => rfl)
  · split
    · exact FE.bnd (fe_pe _ _ _ _ _ _ _ _ h) (fun _ _ _ _ => fe_rfl) (fun _ _ => rfl)
    · split
      · exact FE.bnd (fe_name h) (fun _ _ _ h => FE.bnd (fe_ty _ _ _ _ _ _ h) (fun _ _ _ h => FE.bnd (fe_num h) (fun _ _ _ _ => fe_rfl) (fun _ _ => rfl)) (fun _ _ => emp_num.bnd fun _ _ => rfl)) (fun _ _ => (emp_ty _ _ _).bnd fun _ _ => emp_num.bnd fun _ _ => rfl)
      · split
        · exact FE.bnd (fe_name h) (fun _ _ _ _ => fe_rfl) (fun _ _ => rfl)
        · split
          · exact FE.bnd (fe_brk _ _ _ _ _ (fun a s r h => fe_arg _ _ _ _ a s r h) (fun a s => emp_arg _ _ a s) _ _ _ h) (fun _ _ _ _ => fe_rfl) (fun _ _ => rfl)
          · exact fe_rfl
theorem fe_plain (e e' f d : Nat) (us : List Tok) (s : St) (ts : List Tok) (h : ts ≠ []) : FE us (plain e f d s ts) (plain e' f d s (ts ++ us)) := by
  unfold plain
  split
  · exact fe_plainB _ _ _ _ _ _ _ _ h
  · exact FE.bnd (fe_name h) (fun _ _ _ h => fe_plainB _ _ _ _ _ _ _ _ h) (fun _ _ => emp_plainB _ _ _ _ _)
theorem fe_nestA (e e' f d : Nat) (us : List Tok) (s : St) (ts : List Tok) (h : ts ≠ []) : FE us (nestA e f d s ts) (nestA e' f d s (ts ++ us)) := by
  unfold nestA
  split
  · exact FE.bnd (fe_name h) (fun _ _ _ h => FE.bnd (fe_skp h) (fun _ _ _ h => FE.bnd (fe_name h) (fun _ _ _ _ => fe_rfl) (fun _ _ => rfl)) (fun _ _ => emp_name.bnd fun _ _ => rfl)) (fun _ _ => emp_skp.bnd fun _ _ => emp_name.bnd fun _ _ => rfl)
  · exact FE.bnd (fe_pe _ _ _ _ _ _ _ _ h) (fun _ _ _ _ => fe_rfl) (fun _ _ => rfl)
theorem fe_ps (e e' : Nat) (us : List Tok) (f g : Nat) (acc : List Tr) (s : St) (ts : List Tok) (h : ts ≠ []) : FE us (ps e f g acc s ts) (ps e' f g acc s (ts ++ us)) := by
  induction f generalizing g acc s ts with
  | zero => exact fe_out
  | succ f ih =>
    match g with
    | 0 =>
      rw [ps_0, ps_0, txt_app h]
      split
      · exact fe_bad h
      · exact FE.bnd (fe_skp h) (fun _ _ _ h => FE.bnd (ih _ _ _ _ h) (fun _ _ _ h => FE.bnd (fe_skp h) (fun _ _ _ _ => fe_rfl) (fun _ _ => rfl)) (fun _ _ => emp_skp.bnd fun _ _ => rfl)) (fun _ _ => (emp_ps _ _ _ _ _).bnd fun _ _ => emp_skp.bnd fun _ _ => rfl)
    | 1 =>
      rw [ps_1, ps_1, txt_app h, tail_app h, place_app e e' h]
      split
      · exact fe_unfit h
      · split
        · exact fun hc => by rcases hc with hc | hc <;> cases hc
        · split
          · exact FE.bnd (tail_fe (k := fun t => plain e f (doOf (txt ts)) s.stmt t) (k' := fun t => plain e' f (doOf (txt ts)) s.stmt t) (fun h => fe_plain _ _ _ _ _ _ _ h) (emp_plain _ _ _ _)) (fun _ _ _ h => FE.bnd (fe_skp h) (fun _ _ _ _ => fe_rfl) (fun _ _ => rfl)) (fun _ _ => emp_skp.bnd fun _ _ => rfl)
          · refine FE.bnd (tail_fe (k := fun t => nestA e f (doOf (txt ts)) s.stmt t) (k' := fun t => nestA e' f (doOf (txt ts)) s.stmt t) (fun h => fe_nestA _ _ _ _ _ _ _ h) (emp_nestA _ _ _ _)) (fun _ _ _ h => FE.bnd (ih _ _ _ _ h) (fun _ s2 r2 h => FE.bnd ?_ (fun _ _ _ _ => fe_rfl) (fun _ _ => rfl)) (fun _ _ => Emp.bnd ?_ fun _ _ => rfl)) (fun _ _ => (emp_ps _ _ _ _ _).bnd fun _ _ => Emp.bnd ?_ fun _ _ => rfl)
            · rw [txt_app h]
              split
              · exact FE.bnd (fe_skp h) (fun _ _ _ h => ih _ _ _ _ h) (fun _ _ => emp_ps _ _ _ _ _)
              · exact fe_rfl
            · rw [if_neg (by simp [txt, wElse])]; rfl
            · rw [if_neg (by simp [txt, wElse])]; rfl
    | g + 2 =>
      rw [ps_2 _ _ _ _ _ _ (by omega), ps_2 _ _ _ _ _ _ (by omega), txt_app h]
      split
      · exact fe_rfl
      · exact FE.bnd (ih _ _ _ _ h) (fun _ _ _ h => ih _ _ _ _ h) (fun _ _ => emp_ps _ _ _ _ _)
theorem fe_stage (e e' f : Nat) (us : List Tok) (s : St) (ts : List Tok) (h : ts ≠ []) : FE us (stage e f s ts) (stage e' f s (ts ++ us)) := by
  unfold stage
  rw [place_app e e' h]
  refine FE.bnd (fe_skp h) (fun _ _ _ h => FE.bnd (fe_name h) (fun _ _ _ h => FE.bnd (fe_brk _ _ _ _ _ (fun a s r h => fe_par _ _ _ a s r h) (fun a s => emp_par _ a s) _ _ _ h) (fun _ _ _ h => FE.bnd (fe_ps _ _ _ _ _ _ _ _ h) (fun _ _ _ _ => fe_rfl) (fun _ _ => rfl)) (fun _ _ => (emp_ps _ _ _ _ _).bnd fun _ _ => rfl)) (fun _ _ => (emp_brk _ _ (fun a s => emp_par _ a s) _ _).bnd fun _ _ => (emp_ps _ _ _ _ _).bnd fun _ _ => rfl)) (fun _ _ => emp_name.bnd fun _ _ => (emp_brk _ _ (fun a s => emp_par _ a s) _ _).bnd fun _ _ => (emp_ps _ _ _ _ _).bnd fun _ _ => rfl)
theorem fe_stages (e e' f k : Nat) (us : List Tok) (acc : List Tr) (s : St) (ts : List Tok) (h : ts ≠ []) : FE us (stages e f k acc s ts) (stages e' f k acc s (ts ++ us)) := by
  induction k generalizing acc s ts with
  | zero => exact fe_out
  | succ k ih =>
    have e1 : ts.isEmpty = false := by cases ts with
      | nil => exact absurd rfl h
      | cons a b => rfl
    have e2 : (ts ++ us).isEmpty = false := by cases ts with
      | nil => exact absurd rfl h
      | cons a b => rfl
    simp only [stages, e1, e2, txt_app h, Bool.false_eq_true, if_false]
    split
    · exact fe_bad h
    · exact FE.bnd (fe_stage _ _ _ _ _ _ h) (fun _ _ _ h => ih _ _ _ h) (fun _ _ => emp_stages _ _ _ _ _)
theorem fe_prog (e e' f k : Nat) (us ts : List Tok) (h : ts ≠ []) : FE us (prog e f k ts) (prog e' f k (ts ++ us)) :=
  FE.bnd (fe_stage _ _ _ _ _ _ h) (fun _ _ _ h => fe_stages _ _ _ _ _ _ _ _ h) (fun _ _ => emp_stages _ _ _ _ _)
end Go.Proofs.YtdnlnpdaplonfabDoor.Sx
/- Tokens further behind, in a state that has counted more: what is read is the same, its places further behind. -/
namespace Go.Proofs.YtdnlnpdaplonfabDoor.Sx
open Go.Proofs.YtdnlnpdaplonfabDoor.Tk

/-- A state that has counted more. -/
def St.on (c k : Nat) (s : St) : St := ⟨s.stmts + c, s.dep, s.opn, s.parts + k⟩
/-- The same, further behind. -/
def SI {α : Type} (d c k : Nat) (m m' : Rs α) : Prop := match m with
  | .inl (x, s, r) => m' = .inl (x, s.on c k, r.map (shift d))
  | .inr _ => True
variable {d c k : Nat}
theorem SI.bnd {α β : Type} {m m' : Rs α} {f f' : α → St → List Tok → Rs β} (h : SI d c k m m') (hk : ∀ x s r, SI d c k (f x s r) (f' x (s.on c k) (r.map (shift d)))) : SI d c k (bnd m f) (bnd m' f') := by
  cases m with
  | inl p =>
    obtain ⟨x, s, r⟩ := p
    have hm : m' = _ := h
    rw [hm]
    exact hk x s r
  | inr p => trivial
theorem si_rfl {α : Type} {x : α} {s : St} {r : List Tok} : SI d c k (.inl (x, s, r)) (.inl (x, s.on c k, r.map (shift d))) := rfl
theorem txt_sh (ts : List Tok) : txt (ts.map (shift d)) = txt ts := by cases ts <;> rfl
theorem tail_sh (ts : List Tok) : (ts.map (shift d)).tail = ts.tail.map (shift d) := by cases ts <;> rfl
theorem kind_sh (x : Int) (ts : List Tok) : hasKind x (ts.map (shift d)) = hasKind x ts := by cases ts <;> rfl
theorem si_skp {e e' : Nat} {x : List UInt8} {s : St} {ts : List Tok} : SI d c k (skp e x s ts) (skp e' x (s.on c k) (ts.map (shift d))) := by
  unfold skp
  rw [txt_sh, tail_sh]
  split
  · exact rfl
  · trivial
theorem si_tokOf {e e' : Nat} {x : Int} {s : St} {ts : List Tok} : SI d c k (bnd (tokOf e x s ts) fun t s r => (.inl ((t.text, t.n), s, r) : Rs (List UInt8 × Int))) (bnd (tokOf e' x (s.on c k) (ts.map (shift d))) fun t s r => .inl ((t.text, t.n), s, r)) := by
  cases ts with
  | nil => trivial
  | cons t r =>
    simp only [tokOf, List.map_cons, shift]
    split
    · exact rfl
    · trivial
theorem si_name {e e' : Nat} {s : St} {ts : List Tok} : SI d c k (nameOf e s ts) (nameOf e' (s.on c k) (ts.map (shift d))) := by
  cases ts with
  | nil => trivial
  | cons t r =>
    simp only [nameOf, tokOf, List.map_cons, shift]
    split
    · exact rfl
    · trivial
theorem si_num {e e' : Nat} {s : St} {ts : List Tok} : SI d c k (numOf e s ts) (numOf e' (s.on c k) (ts.map (shift d))) := by
  cases ts with
  | nil => trivial
  | cons t r =>
    simp only [numOf, tokOf, List.map_cons, shift]
    split
    · exact rfl
    · trivial
theorem si_ent {e e' : Nat} {s : St} {ts : List Tok} : SI d c k (ent e s ts) (ent e' (s.on c k) (ts.map (shift d))) := by
  unfold ent
  rw [tail_sh]
  show SI d c k _ (if s.opn = 60 then _ else _)
  split
  · trivial
  · exact rfl
theorem on_part (s : St) : (s.on c k).part = s.part.on c k := by simp only [St.on, St.part, St.mk.injEq, true_and]; omega
theorem on_shut (s : St) : (s.on c k).shut = s.shut.on c k := rfl
theorem on_up (s : St) : (s.on c k).up = s.up.on c k := rfl
theorem on_down (s : St) : (s.on c k).down = s.down.on c k := rfl
theorem on_stmt (s : St) : (s.on c k).stmt = s.stmt.on c k := by simp only [St.on, St.stmt, St.mk.injEq, and_true]; omega
theorem SI.join {op : Int} {x : Tr} {m m' : Rs Tr} (h : SI d c k m m') : SI d c k (join op x m) (join op x m') := h.bnd fun y s r => by rw [on_part]; exact rfl
theorem si_pe (e e' f g : Nat) (x : Tr) (s : St) (ts : List Tok) : SI d c k (pe e f g x s ts) (pe e' f g x (s.on c k) (ts.map (shift d))) := by
  induction f generalizing g x s ts with
  | zero => trivial
  | succ f ih =>
    rcases pe_kinds g with rfl | rfl | rfl | rfl | rfl | hg
    · rw [pe_0, pe_0]
      refine SI.bnd (SI.bnd (ih _ _ _ _) (fun y s1 r1 => ?_)) (fun z s3 r3 => ?_)
      · rw [txt_sh, tail_sh]
        split
        · exact (ih _ _ _ _).join
        · split
          · exact (ih _ _ _ _).join
          · exact rfl
      · have : (s3.on c k).parts - (s.on c k).parts = s3.parts - s.parts := by simp only [St.on]; omega
        rw [this]
        split
        · trivial
        · exact rfl
    · rw [pe_1, pe_1]; exact SI.bnd (ih _ _ _ _) (fun y s1 r1 => ih _ _ _ _)
    · rw [pe_2, pe_2]; exact SI.bnd (ih _ _ _ _) (fun y s1 r1 => ih _ _ _ _)
    · rw [pe_4, pe_4, txt_sh, tail_sh]
      split
      · exact SI.bnd (ih _ _ _ _).join (fun y s1 r1 => ih _ _ _ _)
      · split
        · exact SI.bnd (ih _ _ _ _).join (fun y s1 r1 => ih _ _ _ _)
        · exact rfl
    · rw [pe_5, pe_5, txt_sh, tail_sh]
      split
      · exact SI.bnd (ih _ _ _ _).join (fun y s1 r1 => ih _ _ _ _)
      · exact rfl
    · rw [pe_u _ _ _ _ _ _ hg, pe_u _ _ _ _ _ _ hg, txt_sh, kind_sh]
      split
      · exact si_ent.bnd fun _ _ _ => (ih _ _ _ _).bnd fun _ _ _ => si_skp.bnd fun _ _ _ => rfl
      · split
        · exact si_ent.bnd fun _ _ _ => (ih _ _ _ _).bnd fun _ s2 _ => by rw [on_shut, on_part]; exact rfl
        · split
          · exact si_num.bnd fun _ _ _ => by rw [on_part]; exact rfl
          · exact si_name.bnd fun _ _ _ => by rw [on_part]; exact rfl
theorem si_ty (e e' : Nat) (acc : List UInt8) (s : St) (ts : List Tok) : SI d c k (ty e acc s ts) (ty e' acc (s.on c k) (ts.map (shift d))) := by
  induction ts generalizing acc with
  | nil => trivial
  | cons t r ih =>
    simp only [ty, List.map_cons]
    rw [show (shift d t).text = t.text from rfl]
    split
    · split
      · trivial
      · exact ih _
    · exact SI.bnd (si_skp (ts := t :: r)) fun _ _ _ => rfl
theorem si_brkL {σ : Type} (e e' : Nat) (one one' : σ → St → List Tok → Rs σ) (h1 : ∀ a s r, SI d c k (one a s r) (one' a (s.on c k) (r.map (shift d)))) (j n : Nat) (acc : σ) (s : St) (ts : List Tok) : SI d c k (brkL e one j n acc s ts) (brkL e' one' j n acc (s.on c k) (ts.map (shift d))) := by
  induction j generalizing n acc s ts with
  | zero => trivial
  | succ j ih =>
    simp only [brkL]
    rw [txt_sh, tail_sh]
    split
    · split
      · trivial
      · exact SI.bnd (h1 _ _ _) (fun _ _ _ => ih _ _ _ _)
    · exact rfl
theorem si_brk {σ : Type} (e e' : Nat) (one one' : σ → St → List Tok → Rs σ) (h1 : ∀ a s r, SI d c k (one a s r) (one' a (s.on c k) (r.map (shift d)))) (acc : σ) (s : St) (ts : List Tok) : SI d c k (brk e one acc s ts) (brk e' one' acc (s.on c k) (ts.map (shift d))) := by
  unfold brk
  refine SI.bnd si_skp (fun _ s1 r1 => SI.bnd ?_ (fun _ _ _ => si_skp.bnd fun _ _ _ => rfl))
  rw [txt_sh]
  split
  · exact rfl
  · exact SI.bnd (h1 _ _ _) (fun _ _ _ => si_brkL e e' one one' h1 _ _ _ _ _)
theorem si_par (e e' : Nat) (acc : List Tr) (s : St) (ts : List Tok) : SI d c k (parOne e acc s ts) (parOne e' acc (s.on c k) (ts.map (shift d))) :=
  si_name.bnd fun _ _ _ => (si_ty _ _ _ _ _).bnd fun _ _ _ => rfl
theorem si_arg (e e' f : Nat) (acc : List Tr) (s : St) (ts : List Tok) : SI d c k (argOne e f acc s ts) (argOne e' f acc (s.on c k) (ts.map (shift d))) :=
  (si_pe _ _ _ _ _ _ _).bnd fun _ _ _ => rfl
theorem si_plainB (e e' f b : Nat) (A : List UInt8) (s : St) (ts : List Tok) : SI d c k (plainB e f b A s ts) (plainB e' f b A (s.on c k) (ts.map (shift d))) := by
  unfold plainB
  split
  · exact si_skp.bnd fun _ _ _ => (si_pe _ _ _ _ _ _ _).bnd fun _ _ _ => rfl
  · split
    · exact (si_pe _ _ _ _ _ _ _).bnd fun _ _ _ => rfl
    · split
      · exact si_name.bnd fun _ _ _ => (si_ty _ _ _ _ _).bnd fun _ _ _ => si_num.bnd fun _ _ _ => rfl
      · split
        · exact si_name.bnd fun _ _ _ => rfl
        · split
          · exact (si_brk _ _ _ _ (fun a s r => si_arg _ _ _ a s r) _ _ _).bnd fun _ _ _ => rfl
          · exact rfl
theorem si_plain (e e' f b : Nat) (s : St) (ts : List Tok) : SI d c k (plain e f b s ts) (plain e' f b (s.on c k) (ts.map (shift d))) := by
  unfold plain
  split
  · exact si_plainB _ _ _ _ _ _ _
  · exact si_name.bnd fun _ _ _ => si_plainB _ _ _ _ _ _ _
theorem si_nestA (e e' f b : Nat) (s : St) (ts : List Tok) : SI d c k (nestA e f b s ts) (nestA e' f b (s.on c k) (ts.map (shift d))) := by
  unfold nestA
  split
  · exact si_name.bnd fun _ _ _ => si_skp.bnd fun _ _ _ => si_name.bnd fun _ _ _ => rfl
  · exact (si_pe _ _ _ _ _ _ _).bnd fun _ _ _ => rfl
end Go.Proofs.YtdnlnpdaplonfabDoor.Sx
/- Statements and stages further behind, in a state that has counted more; how many are counted. -/
namespace Go.Proofs.YtdnlnpdaplonfabDoor.Sx
open Go.Proofs.YtdnlnpdaplonfabDoor.Tk

/-- Statements are counted by statements alone. -/
def SE {α : Type} (n : Nat) : Rs α → Prop
  | .inl (_, s, _) => s.stmts = n
  | .inr _ => True
theorem SE.bnd {α β : Type} {n : Nat} {m : Rs α} {f : α → St → List Tok → Rs β} (h : SE n m) (hk : ∀ x s r, s.stmts = n → SE n (f x s r)) : SE n (bnd m f) := by
  cases m with
  | inl p => exact hk _ _ _ h
  | inr p => trivial
theorem se_skp {e n : Nat} {x : List UInt8} {s : St} {ts : List Tok} (h : s.stmts = n) : SE n (skp e x s ts) := by
  unfold skp; split
  · exact h
  · trivial
theorem se_tok {e n : Nat} {x : Int} {s : St} {ts : List Tok} (h : s.stmts = n) : SE n (tokOf e x s ts) := by
  cases ts with
  | nil => trivial
  | cons t r => simp only [tokOf]; split
                · exact h
                · trivial
theorem se_name {e n : Nat} {s : St} {ts : List Tok} (h : s.stmts = n) : SE n (nameOf e s ts) := (se_tok h).bnd fun _ _ _ h => h
theorem se_num {e n : Nat} {s : St} {ts : List Tok} (h : s.stmts = n) : SE n (numOf e s ts) := (se_tok h).bnd fun _ _ _ h => h
theorem se_ent {e n : Nat} {s : St} {ts : List Tok} (h : s.stmts = n) : SE n (ent e s ts) := by
  unfold ent; split
  · trivial
  · exact h
theorem SE.join {n : Nat} {op : Int} {x : Tr} {m : Rs Tr} (h : SE n m) : SE n (join op x m) := h.bnd fun _ _ _ h => h
theorem se_pe (n e f g : Nat) (x : Tr) (s : St) (ts : List Tok) (h : s.stmts = n) : SE n (pe e f g x s ts) := by
  induction f generalizing g x s ts with
  | zero => trivial
  | succ f ih =>
    rcases pe_kinds g with rfl | rfl | rfl | rfl | rfl | hg
    · rw [pe_0]
      refine (SE.bnd (ih _ _ _ _ h) fun x s1 r1 h1 => ?_).bnd fun z s3 r3 h3 => ?_
      · split
        · exact (ih _ _ _ _ h1).join
        · split
          · exact (ih _ _ _ _ h1).join
          · exact h1
      · split
        · trivial
        · exact h3
    · rw [pe_1]; exact (ih _ _ _ _ h).bnd fun x s1 r1 h1 => ih _ _ _ _ h1
    · rw [pe_2]; exact (ih _ _ _ _ h).bnd fun x s1 r1 h1 => ih _ _ _ _ h1
    · rw [pe_4]
      split
      · exact (ih _ _ _ _ h).join.bnd fun x s1 r1 h1 => ih _ _ _ _ h1
      · split
        · exact (ih _ _ _ _ h).join.bnd fun x s1 r1 h1 => ih _ _ _ _ h1
        · exact h
    · rw [pe_5]
      split
      · exact (ih _ _ _ _ h).join.bnd fun x s1 r1 h1 => ih _ _ _ _ h1
      · exact h
    · rw [pe_u _ _ _ _ _ _ hg]
      split
      · exact (se_ent h).bnd fun _ _ _ h => (ih _ _ _ _ h).bnd fun _ _ _ h => (se_skp h).bnd fun _ _ _ h => h
      · split
        · exact (se_ent h).bnd fun _ _ _ h => (ih _ _ _ _ h).bnd fun _ _ _ h => h
        · split
          · exact (se_num h).bnd fun _ _ _ h => h
          · exact (se_name h).bnd fun _ _ _ h => h
theorem se_ty (n e : Nat) (acc : List UInt8) (s : St) (ts : List Tok) (h : s.stmts = n) : SE n (ty e acc s ts) := by
  induction ts generalizing acc with
  | nil => trivial
  | cons t r ih =>
    simp only [ty]
    split
    · split
      · trivial
      · exact ih _
    · exact (se_skp h).bnd fun _ _ _ h => h
theorem se_brkL {σ : Type} (n e : Nat) (one : σ → St → List Tok → Rs σ) (h1 : ∀ a s r, s.stmts = n → SE n (one a s r)) (j b : Nat) (acc : σ) (s : St) (ts : List Tok) (h : s.stmts = n) : SE n (brkL e one j b acc s ts) := by
  induction j generalizing b acc s ts with
  | zero => trivial
  | succ j ih =>
    simp only [brkL]
    split
    · split
      · trivial
      · exact (h1 _ _ _ h).bnd fun _ _ _ h => ih _ _ _ _ h
    · exact h
theorem se_brk {σ : Type} (n e : Nat) (one : σ → St → List Tok → Rs σ) (h1 : ∀ a s r, s.stmts = n → SE n (one a s r)) (acc : σ) (s : St) (ts : List Tok) (h : s.stmts = n) : SE n (brk e one acc s ts) := by
  unfold brk
  refine (se_skp h).bnd fun _ _ _ h => SE.bnd ?_ fun _ _ _ h => (se_skp h).bnd fun _ _ _ h => h
  split
  · exact h
  · exact (h1 _ _ _ h).bnd fun _ _ _ h => se_brkL n e one h1 _ _ _ _ _ h
theorem se_arg (n e f : Nat) (a : List Tr) (s : St) (r : List Tok) (h : s.stmts = n) : SE n (argOne e f a s r) := (se_pe _ _ _ _ _ _ _ h).bnd fun _ _ _ h => h
theorem se_plainB (n e f b : Nat) (A : List UInt8) (s : St) (ts : List Tok) (h : s.stmts = n) : SE n (plainB e f b A s ts) := by
  unfold plainB
  split
  · exact (se_skp h).bnd fun _ _ _ h => (se_pe _ _ _ _ _ _ _ h).bnd fun _ _ _ h => h
  · split
    · exact (se_pe _ _ _ _ _ _ _ h).bnd fun _ _ _ h => h
    · split
      · exact (se_name h).bnd fun _ _ _ h => (se_ty _ _ _ _ _ h).bnd fun _ _ _ h => (se_num h).bnd fun _ _ _ h => h
      · split
        · exact (se_name h).bnd fun _ _ _ h => h
        · split
          · exact (se_brk _ _ _ (fun a s r h => se_arg _ _ _ a s r h) _ _ _ h).bnd fun _ _ _ h => h
          · exact h
theorem se_plain (n e f b : Nat) (s : St) (ts : List Tok) (h : s.stmts = n) : SE n (plain e f b s ts) := by
  unfold plain
  split
  · exact se_plainB _ _ _ _ _ _ _ h
  · exact (se_name h).bnd fun _ _ _ h => se_plainB _ _ _ _ _ _ _ h
theorem se_nestA (n e f b : Nat) (s : St) (ts : List Tok) (h : s.stmts = n) : SE n (nestA e f b s ts) := by
  unfold nestA
  split
  · exact (se_name h).bnd fun _ _ _ h => (se_skp h).bnd fun _ _ _ h => (se_name h).bnd fun _ _ _ h => h
  · exact (se_pe _ _ _ _ _ _ _ h).bnd fun _ _ _ h => h
theorem se_par (n e : Nat) (a : List Tr) (s : St) (r : List Tok) (h : s.stmts = n) : SE n (parOne e a s r) := (se_name h).bnd fun _ _ _ h => (se_ty _ _ _ _ _ h).bnd fun _ _ _ h => h
theorem SE.of {α : Type} {n : Nat} {m : Rs α} {x : α} {s : St} {r : List Tok} (h : SE n m) (hm : m = .inl (x, s, r)) : s.stmts = n := by
  rw [hm] at h
  exact h
theorem SI.of {α : Type} {d c k : Nat} {m m' : Rs α} {x : α} {s : St} {r : List Tok} (h : SI d c k m m') (hm : m = .inl (x, s, r)) : m' = .inl (x, s.on c k, r.map (shift d)) := by
  rw [hm] at h
  exact h

/-- Statements, and the same ones further behind. -/
inductive Sh (d : Nat) : List Tr → List Tr → Prop
  | nil : Sh d [] []
  | cons {D at' : Int} {A B T : List UInt8} {N : Int} {E body els body' els' l l' : List Tr} : Sh d body body' → Sh d els els' → Sh d l l' → Sh d (tS D at' A B T N E body els :: l) (tS D (at' + (d : Int)) A B T N E body' els' :: l')
theorem Sh.app {d : Nat} {l l' m m' : List Tr} (h : Sh d l l') (hm : Sh d m m') : Sh d (l ++ m) (l' ++ m') := by
  induction h with
  | nil => exact hm
  | cons h1 h2 _ _ _ ih => exact .cons h1 h2 ih
theorem Sh.same {d : Nat} {l l' : List Tr} (h : Sh d l l') : ∀ n, sameS n l' l = true := by
  induction h with
  | nil => intro n; cases n <;> rfl
  | @cons D at' A B T N E body els body' els' l l' h1 h2 h3 ih1 ih2 ih3 =>
    intro n
    cases n with
    | zero => rfl
    | succ n =>
      have h5 := ih3 (n + 1)
      show all2 _ (_ :: l') (_ :: l) = true
      simp only [all2]
      have e1 : sH (tS D (at' + (d : Int)) A B T N E body' els') = sH (tS D at' A B T N E body els) := rfl
      have e2 : sameE n (sE (tS D (at' + (d : Int)) A B T N E body' els')) (sE (tS D at' A B T N E body els)) = true := sameE_refl n E
      have e3 : sameS n (sB (tS D (at' + (d : Int)) A B T N E body' els')) (sB (tS D at' A B T N E body els)) = true := ih1 n
      have e4 : sameS n (sO (tS D (at' + (d : Int)) A B T N E body' els')) (sO (tS D at' A B T N E body els)) = true := ih2 n
      rw [e1, e2, e3, e4]
      simp only [beq_self_eq_true, Bool.and_self, Bool.true_and]
      exact h5
theorem place_sh {d e e' : Nat} {ts : List Tok} (h : ts ≠ []) : place e' (ts.map (shift d)) = place e ts + (d : Int) := by
  cases ts with
  | nil => exact absurd rfl h
  | cons t r => simp [place, shift]
theorem doOf_ne {ts : List Tok} (h : doOf (txt ts) ≠ 0) : ts ≠ [] := fun e => h (by rw [e]; decide)

theorem so_ps (d c k e e' f g : Nat) (acc acc' l : List Tr) (s s' : St) (ts r : List Tok) (ha : g = 0 ∨ g = 1 ∨ Sh d acc acc') (h : ps e f g acc s ts = .inl (l, s', r)) :
    (s'.stmts + c ≤ 300 → ∃ l', ps e' f g acc' (s.on c k) (ts.map (shift d)) = .inl (l', s'.on c k, r.map (shift d)) ∧ Sh d l l') ∧
    (s.stmts + c ≤ 300 → 300 < s'.stmts + c → ∃ p q, ps e' f g acc' (s.on c k) (ts.map (shift d)) = .inr (8, p, q)) := by
  induction f generalizing g acc acc' l s s' ts r with
  | zero => cases h
  | succ f ih =>
    match g with
    | 0 =>
      rw [ps_0] at h
      split at h
      · cases h
      · rename_i hc
        obtain ⟨u1, s1, r1, h1, h2⟩ := bnd_ok h
        obtain ⟨l2, s2, r2, h3, h4⟩ := bnd_ok h2
        obtain ⟨u3, s3, r3, h5, h6⟩ := bnd_ok h4
        obtain ⟨rfl, rfl, rfl⟩ := inl_ok h6
        have hs1 := (skp_ok h1).2.1
        have hs3 := (skp_ok h5).2.1
        subst s1 s3
        obtain ⟨i1, i2⟩ := ih 2 [] [] l2 s.up s2 r1 r2 (.inr (.inr .nil)) h3
        rw [ps_0, txt_sh, if_neg (by simpa [St.on] using hc), (si_skp (d := d) (c := c) (k := k) (e := e) (e' := e')).of h1]
        constructor
        · intro hl
          obtain ⟨l', j1, j2⟩ := i1 hl
          refine ⟨l', ?_, j2⟩
          show bnd (ps e' f 2 [] (s.on c k).up (r1.map (shift d))) _ = _
          rw [on_up, j1]
          show bnd (skp e' [125] (s2.on c k) (r2.map (shift d))) _ = _
          rw [(si_skp (d := d) (c := c) (k := k) (e := e) (e' := e')).of h5]
          rfl
        · intro hl0 hl
          obtain ⟨p, q, j1⟩ := i2 hl0 hl
          refine ⟨p, q, ?_⟩
          show bnd (ps e' f 2 [] (s.on c k).up (r1.map (shift d))) _ = _
          rw [on_up, j1]
          rfl
    | 1 =>
      rw [ps_1] at h
      split at h
      · cases h
      · rename_i hd0
        have hne := doOf_ne hd0
        split at h
        · cases h
        · rename_i h300
          rw [ps_1, txt_sh, if_neg hd0, tail_sh, place_sh (e := e) hne]
          split at h
          · rename_i h11
            obtain ⟨x, s1, r1, h1, h2⟩ := bnd_ok h
            obtain ⟨u3, s3, r3, h5, h6⟩ := bnd_ok h2
            obtain ⟨rfl, rfl, rfl⟩ := inl_ok h6
            have hs3 := (skp_ok h5).2.1
            subst s3
            have hst : s1.stmts = s.stmts + 1 := (se_plain _ e f (doOf (txt ts)) s.stmt ts.tail rfl).of h1
            constructor
            · intro hl
              rw [if_neg (by simp only [St.on]; omega), if_pos h11, on_stmt, (si_plain (d := d) (c := c) (k := k) e e' f (doOf (txt ts)) s.stmt ts.tail).of h1]
              refine ⟨_, ?_, .cons .nil .nil .nil⟩
              show bnd (skp e' [59] (s1.on c k) (r1.map (shift d))) _ = _
              rw [(si_skp (d := d) (c := c) (k := k) (e := e) (e' := e')).of h5]
              rfl
            · intro hl0 hl
              rw [if_pos (by simp only [St.on]; omega)]
              exact ⟨_, _, rfl⟩
          · rename_i h11
            obtain ⟨x, s1, r1, h1, h2⟩ := bnd_ok h
            obtain ⟨body, s2, r2, h3, h4⟩ := bnd_ok h2
            obtain ⟨els, s3, r3, h5, h6⟩ := bnd_ok h4
            obtain ⟨rfl, rfl, rfl⟩ := inl_ok h6
            have hst : s1.stmts = s.stmts + 1 := (se_nestA _ e f (doOf (txt ts)) s.stmt ts.tail rfl).of h1
            have hm1 := (ps_keeps _ _ _ _ _ _ _ _ _ h3).kp.stmts
            obtain ⟨i1, i2⟩ := ih 0 [] [] body s1 s2 r1 r2 (.inl rfl) h3
            by_cases hel : (doOf (txt ts) = 11 ∨ doOf (txt ts) = 14) ∧ txt r2 = wElse
            · rw [if_pos hel] at h5
              obtain ⟨u7, s7, r7, h7, h8⟩ := bnd_ok h5
              have hs7 := (skp_ok h7).2.1
              subst s7
              have hm2 := (ps_keeps _ _ _ _ _ _ _ _ _ h8).kp.stmts
              obtain ⟨i3, i4⟩ := ih 0 [] [] els s2 s3 r7 r3 (.inl rfl) h8
              constructor
              · intro hl
                obtain ⟨b', j1, j2⟩ := i1 (by omega)
                obtain ⟨o', j3, j4⟩ := i3 hl
                rw [if_neg (by simp only [St.on]; omega), if_neg h11, on_stmt, (si_nestA (d := d) (c := c) (k := k) e e' f (doOf (txt ts)) s.stmt ts.tail).of h1]
                refine ⟨_, ?_, .cons j2 j4 .nil⟩
                show bnd (ps e' f 0 [] (s1.on c k) (r1.map (shift d))) _ = _
                rw [j1]
                show bnd (if (doOf (txt ts) = 11 ∨ doOf (txt ts) = 14) ∧ txt (r2.map (shift d)) = wElse then _ else _) _ = _
                rw [txt_sh, if_pos hel, (si_skp (d := d) (c := c) (k := k) (e := e) (e' := e')).of h7]
                show bnd (ps e' f 0 [] (s2.on c k) (r7.map (shift d))) _ = _
                rw [j3]
                rfl
              · intro hl0 hl
                by_cases hx : s.stmts + c = 300
                · rw [if_pos (by simp only [St.on]; omega)]
                  exact ⟨_, _, rfl⟩
                · rw [if_neg (by simp only [St.on]; omega), if_neg h11, on_stmt, (si_nestA (d := d) (c := c) (k := k) e e' f (doOf (txt ts)) s.stmt ts.tail).of h1]
                  show ∃ p q, bnd (ps e' f 0 [] (s1.on c k) (r1.map (shift d))) _ = _
                  by_cases hy : 300 < s2.stmts + c
                  · obtain ⟨p, q, j1⟩ := i2 (by omega) hy
                    refine ⟨p, q, ?_⟩
                    rw [j1]
                    rfl
                  · obtain ⟨b', j1, j2⟩ := i1 (by omega)
                    obtain ⟨p, q, j3⟩ := i4 (by omega) hl
                    refine ⟨p, q, ?_⟩
                    rw [j1]
                    show bnd (if (doOf (txt ts) = 11 ∨ doOf (txt ts) = 14) ∧ txt (r2.map (shift d)) = wElse then _ else _) _ = _
                    rw [txt_sh, if_pos hel, (si_skp (d := d) (c := c) (k := k) (e := e) (e' := e')).of h7]
                    show bnd (ps e' f 0 [] (s2.on c k) (r7.map (shift d))) _ = _
                    rw [j3]
                    rfl
            · rw [if_neg hel] at h5
              obtain ⟨rfl, rfl, rfl⟩ := inl_ok h5
              constructor
              · intro hl
                obtain ⟨b', j1, j2⟩ := i1 hl
                rw [if_neg (by simp only [St.on]; omega), if_neg h11, on_stmt, (si_nestA (d := d) (c := c) (k := k) e e' f (doOf (txt ts)) s.stmt ts.tail).of h1]
                refine ⟨_, ?_, .cons j2 .nil .nil⟩
                show bnd (ps e' f 0 [] (s1.on c k) (r1.map (shift d))) _ = _
                rw [j1]
                show bnd (if (doOf (txt ts) = 11 ∨ doOf (txt ts) = 14) ∧ txt (r2.map (shift d)) = wElse then _ else _) _ = _
                rw [txt_sh, if_neg hel]
                rfl
              · intro hl0 hl
                by_cases hx : s.stmts + c = 300
                · rw [if_pos (by simp only [St.on]; omega)]
                  exact ⟨_, _, rfl⟩
                · rw [if_neg (by simp only [St.on]; omega), if_neg h11, on_stmt, (si_nestA (d := d) (c := c) (k := k) e e' f (doOf (txt ts)) s.stmt ts.tail).of h1]
                  obtain ⟨p, q, j1⟩ := i2 (by omega) hl
                  refine ⟨p, q, ?_⟩
                  show bnd (ps e' f 0 [] (s1.on c k) (r1.map (shift d))) _ = _
                  rw [j1]
                  rfl
    | g + 2 =>
      have ha' : Sh d acc acc' := by
        rcases ha with h | h | h
        · omega
        · omega
        · exact h
      rw [ps_2 _ _ _ _ _ _ (by omega)] at h ⊢
      rw [txt_sh]
      split at h
      · rename_i ht
        obtain ⟨rfl, rfl, rfl⟩ := inl_ok h
        rw [if_pos ht]
        exact ⟨fun _ => ⟨_, rfl, ha'⟩, fun h1 h2 => by omega⟩
      · rename_i ht
        rw [if_neg ht]
        obtain ⟨l1, s1, r1, h1, h2⟩ := bnd_ok h
        have hm := (ps_keeps _ _ _ _ _ _ _ _ _ h2).kp.stmts
        obtain ⟨i1, i2⟩ := ih 1 [] [] l1 s s1 ts r1 (.inr (.inl rfl)) h1
        constructor
        · intro hl
          obtain ⟨l1', j1, j2⟩ := i1 (by omega)
          obtain ⟨i3, i4⟩ := ih 2 (acc ++ l1) (acc' ++ l1') l s1 s' r1 r (.inr (.inr (ha'.app j2))) h2
          obtain ⟨l', j3, j4⟩ := i3 hl
          refine ⟨l', ?_, j4⟩
          rw [j1]
          exact j3
        · intro hl0 hl
          by_cases hy : 300 < s1.stmts + c
          · obtain ⟨p, q, j1⟩ := i2 hl0 hy
            refine ⟨p, q, ?_⟩
            rw [j1]
            rfl
          · obtain ⟨l1', j1, j2⟩ := i1 (by omega)
            obtain ⟨i3, i4⟩ := ih 2 (acc ++ l1) (acc' ++ l1') l s1 s' r1 r (.inr (.inr (ha'.app j2))) h2
            obtain ⟨p, q, j3⟩ := i4 (by omega) hl
            refine ⟨p, q, ?_⟩
            rw [j1]
            exact j3
end Go.Proofs.YtdnlnpdaplonfabDoor.Sx
/- Programs one behind the other, in plain lists. -/
namespace Go.Proofs.YtdnlnpdaplonfabDoor.Sx
open Go.Proofs.YtdnlnpdaplonfabDoor.Tk

/-- Stages, and the same ones further behind. -/
inductive ShG (d : Nat) : List Tr → List Tr → Prop
  | nil : ShG d [] []
  | cons {nm : List UInt8} {at' : Int} {ps body body' l l' : List Tr} : Sh d body body' → ShG d l l' → ShG d (tG nm at' ps body :: l) (tG nm (at' + (d : Int)) ps body' :: l')
theorem ShG.app {d : Nat} {l l' m m' : List Tr} (h : ShG d l l') (hm : ShG d m m') : ShG d (l ++ m) (l' ++ m') := by
  induction h with
  | nil => exact hm
  | cons h1 _ ih => exact .cons h1 ih
theorem ShG.len {d : Nat} {l l' : List Tr} (h : ShG d l l') : l'.length = l.length := by
  induction h with
  | nil => rfl
  | cons _ _ ih => simp [ih]
theorem all2_app {p : Tr → Tr → Bool} {a b l m : List Tr} (h1 : all2 p a b = true) (h2 : all2 p l m = true) : all2 p (a ++ l) (b ++ m) = true := by
  induction a generalizing b with
  | nil => cases b with
    | nil => exact h2
    | cons y b => cases h1
  | cons x a ih => cases b with
    | nil => cases h1
    | cons y b =>
      simp only [all2, Bool.and_eq_true] at h1
      simp only [List.cons_append, all2, Bool.and_eq_true]
      exact ⟨h1.1, ih h1.2⟩
theorem ShG.same {d : Nat} {l l' : List Tr} (h : ShG d l l') (n : Nat) : sameG n l' l = true := by
  induction h with
  | nil => rfl
  | @cons nm at' ps body body' l l' h1 _ ih =>
    show all2 _ (_ :: l') (_ :: l) = true
    simp only [all2]
    have e1 : gN (tG nm (at' + (d : Int)) ps body') = gN (tG nm at' ps body) := rfl
    have e2 : sameP (gP (tG nm (at' + (d : Int)) ps body')) (gP (tG nm at' ps body)) = true := all2_refl (fun d => by simp) ps
    have e3 : sameS n (gB (tG nm (at' + (d : Int)) ps body')) (gB (tG nm at' ps body)) = true := h1.same n
    rw [e1, e2, e3]
    simp only [beq_self_eq_true, Bool.and_self, Bool.true_and]
    exact ih

theorem so_stage (d c k e e' f : Nat) (s s' : St) (ts r : List Tok) (x : Tr) (h : stage e f s ts = .inl (x, s', r)) :
    (s'.stmts + c ≤ 300 → ∃ x', stage e' f (s.on c k) (ts.map (shift d)) = .inl (x', s'.on c k, r.map (shift d)) ∧ ShG d [x] [x']) ∧
    (s.stmts + c ≤ 300 → 300 < s'.stmts + c → ∃ p q, stage e' f (s.on c k) (ts.map (shift d)) = .inr (8, p, q)) := by
  unfold stage at h ⊢
  obtain ⟨u1, s1, r1, h1, h2⟩ := bnd_ok h
  obtain ⟨nm, s2, r2, h3, h4⟩ := bnd_ok h2
  obtain ⟨pl, s3, r3, h5, h6⟩ := bnd_ok h4
  obtain ⟨body, s4, r4, h7, h8⟩ := bnd_ok h6
  obtain ⟨rfl, rfl, rfl⟩ := inl_ok h8
  have hne : ts ≠ [] := fun e => by
    have := (skp_ok h1).1
    rw [e] at this
    simp [txt, wStage] at this
  have hst1 : s1.stmts = s.stmts := (se_skp rfl).of h1
  have hst2 : s2.stmts = s1.stmts := (se_name rfl).of h3
  have hst3 : s3.stmts = s2.stmts := (se_brk _ e _ (fun a s r h => se_par _ e a s r h) [] s2 r2 rfl).of h5
  obtain ⟨i1, i2⟩ := so_ps d c k e e' f 0 [] [] body s3 s4 r3 r4 (.inl rfl) h7
  rw [place_sh (e := e) hne, (si_skp (d := d) (c := c) (k := k) (e := e) (e' := e')).of h1]
  constructor
  · intro hl
    obtain ⟨b', j1, j2⟩ := i1 hl
    refine ⟨_, ?_, .cons j2 .nil⟩
    show bnd (nameOf e' (s1.on c k) (r1.map (shift d))) _ = _
    rw [(si_name (d := d) (c := c) (k := k) (e := e) (e' := e')).of h3]
    show bnd (brk e' (parOne e') [] (s2.on c k) (r2.map (shift d))) _ = _
    rw [(si_brk (d := d) (c := c) (k := k) e e' (parOne e) (parOne e') (fun a s r => si_par _ _ a s r) [] s2 r2).of h5]
    show bnd (ps e' f 0 [] (s3.on c k) (r3.map (shift d))) _ = _
    rw [j1]
    rfl
  · intro hl0 hl
    obtain ⟨p, q, j1⟩ := i2 (by omega) hl
    refine ⟨p, q, ?_⟩
    show bnd (nameOf e' (s1.on c k) (r1.map (shift d))) _ = _
    rw [(si_name (d := d) (c := c) (k := k) (e := e) (e' := e')).of h3]
    show bnd (brk e' (parOne e') [] (s2.on c k) (r2.map (shift d))) _ = _
    rw [(si_brk (d := d) (c := c) (k := k) e e' (parOne e) (parOne e') (fun a s r => si_par _ _ a s r) [] s2 r2).of h5]
    show bnd (ps e' f 0 [] (s3.on c k) (r3.map (shift d))) _ = _
    rw [j1]
    rfl
theorem stages_ne (e f j : Nat) (acc : List Tr) (s : St) (ts : List Tok) (h : ts ≠ []) : stages e f (j + 1) acc s ts = if acc.length = 10 ∧ txt ts = wStage then bad 8 e ts else bnd (stage e f s ts) fun x s r => stages e f j (acc ++ [x]) s r := by
  cases ts with
  | nil => exact absurd rfl h
  | cons a b => simp [stages]
theorem stage_word {e f : Nat} {s s' : St} {ts r : List Tok} {x : Tr} (h : stage e f s ts = .inl (x, s', r)) : txt ts = wStage := by
  unfold stage at h
  obtain ⟨u1, s1, r1, h1, h2⟩ := bnd_ok h
  exact (skp_ok h1).1

theorem stages_mono (e f j : Nat) (acc l : List Tr) (s s' : St) (ts r : List Tok) (h : stages e f j acc s ts = .inl (l, s', r)) : s.stmts ≤ s'.stmts := by
  induction j generalizing acc s ts with
  | zero => cases h
  | succ j ih =>
    by_cases hts : ts = []
    · subst hts
      simp only [stages, List.isEmpty_nil, if_true] at h
      rw [(inl_ok h).2.1]
      exact Nat.le_refl _
    · rw [stages_ne _ _ _ _ _ _ hts] at h
      split at h
      · cases h
      · obtain ⟨x, s1, r1, h1, h2⟩ := bnd_ok h
        exact Nat.le_trans (stage_keeps _ _ _ _ _ _ _ h1).1.stmts (ih _ _ _ h2)

theorem so_stages (d c k e e' f j j' : Nat) (pre acc acc' l : List Tr) (s s' : St) (ts r : List Tok) (ha : ShG d acc acc') (hj : ts.length < j') (h : stages e f j acc s ts = .inl (l, s', r)) :
    (pre.length + l.length ≤ 10 → s'.stmts + c ≤ 300 → ∃ l' q, stages e' f j' (pre ++ acc') (s.on c k) (ts.map (shift d)) = .inl (pre ++ l', s'.on c k, q) ∧ ShG d l l') ∧
    (s.stmts + c ≤ 300 → pre.length + acc.length ≤ 10 → (10 < pre.length + l.length ∨ 300 < s'.stmts + c) → ∃ p q, stages e' f j' (pre ++ acc') (s.on c k) (ts.map (shift d)) = .inr (8, p, q)) := by
  induction j generalizing j' acc acc' s ts with
  | zero => cases h
  | succ j ih =>
    obtain ⟨i, rfl⟩ : ∃ i, j' = i + 1 := ⟨j' - 1, by omega⟩
    by_cases hts : ts = []
    · subst hts
      obtain ⟨rfl, rfl, rfl⟩ : acc = l ∧ s = s' ∧ [] = r := by
        simp only [stages, List.isEmpty_nil, if_true] at h
        exact inl_ok h
      refine ⟨fun _ _ => ⟨acc', [], ?_, ha⟩, fun h1 h2 h3 => by omega⟩
      simp [stages]
    · have hts' : ts.map (shift d) ≠ [] := by simpa using hts
      rw [stages_ne _ _ _ _ _ _ hts] at h
      rw [stages_ne _ _ _ _ _ _ hts', txt_sh]
      split at h
      · cases h
      · rename_i h10
        obtain ⟨x, s1, r1, h1, h2⟩ := bnd_ok h
        have hw := stage_word h1
        have hk1 := stage_keeps _ _ _ _ _ _ _ h1
        have hlen : acc.length < l.length := by
          have := (stages_end _ _ _ _ _ _ _ _ _ h2)
          by_cases hr1 : r1 = []
          · subst hr1
            cases j with
            | zero => cases h2
            | succ j =>
              simp only [stages, List.isEmpty_nil, if_true] at h2
              rw [← (inl_ok h2).1]
              simp
          · have := (this.2 hr1).2
            simp at this
            omega
        have hmono : s1.stmts ≤ s'.stmts := stages_mono _ _ _ _ _ _ _ _ _ h2
        obtain ⟨i1, i2⟩ := so_stage d c k e e' f s s1 ts r1 x h1
        constructor
        · intro hl hc
          obtain ⟨x', j1, j2⟩ := i1 (by omega)
          obtain ⟨i3, i4⟩ := ih i (acc ++ [x]) (acc' ++ [x']) s1 r1 (ha.app j2) (by omega) h2
          obtain ⟨l', q, j3, j4⟩ := i3 hl hc
          refine ⟨l', q, ?_, j4⟩
          rw [if_neg (by rw [List.length_append, ha.len]; omega), j1]
          show stages e' f i (pre ++ acc' ++ [x']) (s1.on c k) (r1.map (shift d)) = _
          rw [List.append_assoc]
          exact j3
        · intro hc hp hbad
          by_cases hfull : pre.length + acc.length = 10
          · rw [if_pos (by rw [List.length_append, ha.len]; exact ⟨hfull, hw⟩)]
            exact ⟨_, _, rfl⟩
          · rw [if_neg (by rw [List.length_append, ha.len]; omega)]
            by_cases hy : 300 < s1.stmts + c
            · obtain ⟨p, q, j1⟩ := i2 hc hy
              refine ⟨p, q, ?_⟩
              rw [j1]
              rfl
            · obtain ⟨x', j1, j2⟩ := i1 (by omega)
              obtain ⟨i3, i4⟩ := ih i (acc ++ [x]) (acc' ++ [x']) s1 r1 (ha.app j2) (by omega) h2
              obtain ⟨p, q, j3⟩ := i4 (by omega) (by simp; omega) hbad
              refine ⟨p, q, ?_⟩
              rw [j1]
              show stages e' f i (pre ++ acc' ++ [x']) (s1.on c k) (r1.map (shift d)) = _
              rw [List.append_assoc]
              exact j3
/-- What stands behind is read where the first ones are over. -/
theorem stages_app (e e' f j j' : Nat) (us : List Tok) (acc l : List Tr) (s s' : St) (ts r : List Tok) (hj : (ts ++ us).length < j') (h : stages e f j acc s ts = .inl (l, s', r)) : ∃ i, us.length < i ∧ stages e' f j' acc s (ts ++ us) = stages e' f i l s' us := by
  induction j generalizing j' acc s ts with
  | zero => cases h
  | succ j ih =>
    by_cases hts : ts = []
    · subst hts
      simp only [stages, List.isEmpty_nil, if_true] at h
      obtain ⟨rfl, rfl, rfl⟩ := inl_ok h
      exact ⟨j', by simpa using hj, rfl⟩
    · obtain ⟨i, rfl⟩ : ∃ i, j' = i + 1 := ⟨j' - 1, by omega⟩
      rw [stages_ne _ _ _ _ _ _ hts] at h
      split at h
      · cases h
      · rename_i h10
        obtain ⟨x, s1, r1, h1, h2⟩ := bnd_ok h
        have hk1 := (stage_keeps _ _ _ _ _ _ _ h1).2
        obtain ⟨i2, hi2, hi3⟩ := ih i (acc ++ [x]) s1 r1 (by simp at hj ⊢; omega) h2
        refine ⟨i2, hi2, ?_⟩
        rw [stages_ne _ _ _ _ _ _ (by simp [hts]), txt_app hts, if_neg h10, stage_ext e e' f us s s1 ts r1 x h1]
        exact hi3
theorem prog_stages (e f j : Nat) (ts : List Tok) (h : ts ≠ []) : prog e f j ts = stages e f (j + 1) [] s0 ts := by
  rw [stages_ne _ _ _ _ _ _ h, if_neg (by simp)]
  rfl
theorem stages_dep (e f j : Nat) (acc l : List Tr) (s s' : St) (ts r : List Tok) (h : stages e f j acc s ts = .inl (l, s', r)) : s'.dep = s.dep ∧ s'.opn = s.opn := by
  induction j generalizing acc s ts with
  | zero => cases h
  | succ j ih =>
    by_cases hts : ts = []
    · subst hts
      simp only [stages, List.isEmpty_nil, if_true] at h
      obtain ⟨rfl, rfl, rfl⟩ := inl_ok h
      exact ⟨rfl, rfl⟩
    · rw [stages_ne _ _ _ _ _ _ hts] at h
      split at h
      · cases h
      · obtain ⟨x, s1, r1, h1, h2⟩ := bnd_ok h
        have hk1 := (stage_keeps _ _ _ _ _ _ _ h1).1
        obtain ⟨a, b⟩ := ih _ _ _ h2
        exact ⟨a.trans hk1.dep, b.trans hk1.opn⟩
/-- Two programs, one behind the other. -/
theorem prog_join (d e1 e2 e3 f j : Nat) (ts us : List Tok) (P Q : List Tr) (s s2 : St) (r r2 : List Tok) (hj : (ts ++ us).length < j) (h1 : prog e1 f j ts = .inl (P, s, r)) (h2 : prog e2 f j us = .inl (Q, s2, r2)) :
    (P.length + Q.length ≤ 10 → s2.stmts + s.stmts ≤ 300 → ∃ Q' z q, prog e3 f j (ts ++ us.map (shift d)) = .inl (P ++ Q', z, q) ∧ ShG d Q Q') ∧
    (s.stmts ≤ 300 → P.length ≤ 10 → (10 < P.length + Q.length ∨ 300 < s2.stmts + s.stmts) → ∃ p q, prog e3 f j (ts ++ us.map (shift d)) = .inr (8, p, q)) := by
  have hts : ts ≠ [] := by
    obtain ⟨pre, t, hp, -⟩ := prog_end _ _ _ _ _ _ _ h1
    rw [hp]; simp
  have hus : us ≠ [] := by
    obtain ⟨pre, t, hp, -⟩ := prog_end _ _ _ _ _ _ _ h2
    rw [hp]; simp
  rw [prog_stages _ _ _ _ hts] at h1
  rw [prog_stages _ _ _ _ hus] at h2
  rw [prog_stages _ _ _ _ (by simp [hts])]
  obtain ⟨i, hi1, hi2⟩ := stages_app e1 e3 f (j + 1) (j + 1) (us.map (shift d)) [] P s0 s ts r (by simp at hj ⊢; omega) h1
  have hdp := stages_dep _ _ _ _ _ _ _ _ _ h1
  have hon : s0.on s.stmts s.parts = s := by
    obtain ⟨a, b⟩ := hdp
    cases s
    simp only [St.on, s0] at *
    simp [a, b]
  obtain ⟨k1, k2⟩ := so_stages d s.stmts s.parts e2 e3 f (j + 1) i P [] [] Q s0 s2 us r2 .nil (by simpa using hi1) h2
  rw [hi2]
  simp only [List.append_nil, hon] at k1 k2
  refine ⟨fun a b => ?_, fun a b c => k2 (by simpa [s0] using a) (by simpa using b) c⟩
  obtain ⟨l', q, g1, g2⟩ := k1 a b
  exact ⟨l', _, q, g1, g2⟩
end Go.Proofs.YtdnlnpdaplonfabDoor.Sx
/- How many statements are read. -/
namespace Go.Proofs.YtdnlnpdaplonfabDoor.Sx
open Go.Proofs.YtdnlnpdaplonfabDoor.Tk

/-- No deeper than so many. -/
def DpS : Nat → List Tr → Prop
  | 0, _ => False
  | n + 1, l => ∀ d ∈ l, DpS n (sB d) ∧ DpS n (sO d)
theorem DpS.app {n : Nat} {a b : List Tr} (h : DpS n (a ++ b)) : DpS n a ∧ DpS n b := by
  cases n with
  | zero => cases h
  | succ n => exact ⟨fun d hd => h d (by simp [hd]), fun d hd => h d (by simp [hd])⟩
theorem sum_app (f : Tr → Nat) (a b : List Tr) : sum f (a ++ b) = sum f a + sum f b := by
  induction a with
  | nil => simp [sum]
  | cons x a ih => simp only [List.cons_append, sum, ih]; omega
theorem cnt_app (n : Nat) (a b : List Tr) : cnt n (a ++ b) = cnt n a + cnt n b := by
  cases n with
  | zero => rfl
  | succ n => simp only [cnt, sum_app, List.length_append]; omega
theorem cnt_nil' (n : Nat) : cnt n [] = 0 := by cases n <;> rfl
theorem cnt_one (n : Nat) (D at' : Int) (A B T : List UInt8) (N : Int) (E body els : List Tr) : cnt (n + 1) [tS D at' A B T N E body els] = 1 + (cnt n body + cnt n els) := by
  simp [cnt, sum, sB, sO, tS]

theorem cnt_ps (e f g : Nat) (acc l : List Tr) (s s' : St) (ts r : List Tok) (h : ps e f g acc s ts = .inl (l, s', r)) :
    ∃ m, l = (if 2 ≤ g then acc else []) ++ m ∧ ∀ n, DpS n m → s'.stmts = s.stmts + cnt n m := by
  induction f generalizing g acc l s s' ts r with
  | zero => cases h
  | succ f ih =>
    match g with
    | 0 =>
      rw [ps_0] at h
      split at h
      · cases h
      · obtain ⟨u1, s1, r1, h1, h2⟩ := bnd_ok h
        obtain ⟨l2, s2, r2, h3, h4⟩ := bnd_ok h2
        obtain ⟨u3, s3, r3, h5, h6⟩ := bnd_ok h4
        obtain ⟨rfl, rfl, rfl⟩ := inl_ok h6
        have hs1 := (skp_ok h1).2.1
        have hs3 := (skp_ok h5).2.1
        subst s1 s3
        obtain ⟨m, hm, hn⟩ := ih 2 [] l2 s.up s2 r1 r2 h3
        exact ⟨m, by simpa using hm, hn⟩
    | 1 =>
      rw [ps_1] at h
      split at h
      · cases h
      · split at h
        · cases h
        · split at h
          · obtain ⟨x, s1, r1, h1, h2⟩ := bnd_ok h
            obtain ⟨u3, s3, r3, h5, h6⟩ := bnd_ok h2
            obtain ⟨rfl, rfl, rfl⟩ := inl_ok h6
            have hs3 := (skp_ok h5).2.1
            subst s3
            have hst : s1.stmts = s.stmts + 1 := (se_plain _ e f (doOf (txt ts)) s.stmt ts.tail rfl).of h1
            refine ⟨_, rfl, fun n hn => ?_⟩
            cases n with
            | zero => cases hn
            | succ n => rw [cnt_one, cnt_nil', hst]
          · obtain ⟨x, s1, r1, h1, h2⟩ := bnd_ok h
            obtain ⟨body, s2, r2, h3, h4⟩ := bnd_ok h2
            obtain ⟨els, s3, r3, h5, h6⟩ := bnd_ok h4
            obtain ⟨rfl, rfl, rfl⟩ := inl_ok h6
            have hst : s1.stmts = s.stmts + 1 := (se_nestA _ e f (doOf (txt ts)) s.stmt ts.tail rfl).of h1
            obtain ⟨m1, hm1, hn1⟩ := ih 0 [] body s1 s2 r1 r2 h3
            simp at hm1
            subst hm1
            refine ⟨_, rfl, fun n hn => ?_⟩
            cases n with
            | zero => cases hn
            | succ n =>
              obtain ⟨hb, he⟩ := hn _ (List.mem_singleton.2 rfl)
              have hb' : DpS n body := hb
              have he' : DpS n els := he
              have g1 := hn1 n hb'
              rw [cnt_one]
              split at h5
              · obtain ⟨u7, s7, r7, h7, h8⟩ := bnd_ok h5
                have hs7 := (skp_ok h7).2.1
                subst s7
                obtain ⟨m2, hm2, hn2⟩ := ih 0 [] els s2 s3 r7 r3 h8
                simp at hm2
                subst hm2
                have g2 := hn2 n he'
                omega
              · obtain ⟨rfl, rfl, rfl⟩ := inl_ok h5
                rw [cnt_nil']
                omega
    | g + 2 =>
      rw [ps_2 _ _ _ _ _ _ (by omega)] at h
      split at h
      · obtain ⟨rfl, rfl, rfl⟩ := inl_ok h
        exact ⟨[], by simp, fun n _ => by rw [cnt_nil']; rfl⟩
      · obtain ⟨l1, s1, r1, h1, h2⟩ := bnd_ok h
        obtain ⟨m1, hm1, hn1⟩ := ih 1 [] l1 s s1 ts r1 h1
        simp at hm1
        subst hm1
        obtain ⟨m2, hm2, hn2⟩ := ih 2 (acc ++ l1) l s1 s' r1 r h2
        refine ⟨l1 ++ m2, by simpa using hm2, fun n hn => ?_⟩
        obtain ⟨a, b⟩ := hn.app
        have := hn1 n a
        have := hn2 n b
        rw [cnt_app]
        omega
theorem cnt_stage (e f : Nat) (s s' : St) (ts r : List Tok) (x : Tr) (h : stage e f s ts = .inl (x, s', r)) (n : Nat) (hn : DpS n (gB x)) : s'.stmts = s.stmts + cnt n (gB x) := by
  unfold stage at h
  obtain ⟨u1, s1, r1, h1, h2⟩ := bnd_ok h
  obtain ⟨nm, s2, r2, h3, h4⟩ := bnd_ok h2
  obtain ⟨pl, s3, r3, h5, h6⟩ := bnd_ok h4
  obtain ⟨body, s4, r4, h7, h8⟩ := bnd_ok h6
  obtain ⟨rfl, rfl, rfl⟩ := inl_ok h8
  have hst1 : s1.stmts = s.stmts := (se_skp rfl).of h1
  have hst2 : s2.stmts = s1.stmts := (se_name rfl).of h3
  have hst3 : s3.stmts = s2.stmts := (se_brk _ e _ (fun a s r h => se_par _ e a s r h) [] s2 r2 rfl).of h5
  obtain ⟨m, hm, hn2⟩ := cnt_ps e f 0 [] body s3 s4 r3 r4 h7
  simp at hm
  subst hm
  have := hn2 n hn
  show s4.stmts = s.stmts + cnt n body
  omega
theorem cnt_stages (e f j : Nat) (acc l : List Tr) (s s' : St) (ts r : List Tok) (h : stages e f j acc s ts = .inl (l, s', r)) : ∃ m, l = acc ++ m ∧ ∀ n, (∀ d ∈ m, DpS n (gB d)) → s'.stmts = s.stmts + cntG n m := by
  induction j generalizing acc s ts with
  | zero => cases h
  | succ j ih =>
    by_cases hts : ts = []
    · subst hts
      simp only [stages, List.isEmpty_nil, if_true] at h
      obtain ⟨rfl, rfl, rfl⟩ := inl_ok h
      exact ⟨[], by simp, fun n _ => rfl⟩
    · rw [stages_ne _ _ _ _ _ _ hts] at h
      split at h
      · cases h
      · obtain ⟨x, s1, r1, h1, h2⟩ := bnd_ok h
        obtain ⟨m, hm, hn⟩ := ih _ _ _ h2
        refine ⟨x :: m, by simpa using hm, fun n hd => ?_⟩
        have g1 := cnt_stage _ _ _ _ _ _ _ h1 n (hd x (by simp))
        have g2 := hn n (fun d hx => hd d (by simp [hx]))
        have : cntG n (x :: m) = cnt n (gB x) + cntG n m := rfl
        omega
theorem cnt_prog (e f j : Nat) (ts : List Tok) (P : List Tr) (s : St) (r : List Tok) (h : prog e f j ts = .inl (P, s, r)) (n : Nat) (hd : ∀ d ∈ P, DpS n (gB d)) : s.stmts = cntG n P := by
  have hts : ts ≠ [] := by
    obtain ⟨pre, t, hp, -⟩ := prog_end _ _ _ _ _ _ _ h
    rw [hp]; simp
  rw [prog_stages _ _ _ _ hts] at h
  obtain ⟨m, hm, hn⟩ := cnt_stages _ _ _ _ _ _ _ _ _ h
  simp at hm
  subst hm
  have := hn n hd
  simpa [s0] using this
end Go.Proofs.YtdnlnpdaplonfabDoor.Sx

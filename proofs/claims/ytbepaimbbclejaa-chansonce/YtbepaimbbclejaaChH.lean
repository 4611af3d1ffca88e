import Derived.Test.YtbepaimbbclejaaChDe
/- The document's book, plain: Drop. -/
namespace Go.Proofs.Ytbepaimbbclejaa
open Go.RowKit

def wp1 (d : Int) : Int := wrap64 (d + 1)
structure Bs where
  e : List En
  i : List (List (Int × Int))
  g : List Bool
def Bk.tot (I : List (List (Int × Int))) : Nat := (I.map List.length).sum
/-- One after the other. -/
def Bk.each (d : Bs → Int → Bs) : List (Int × Int) → Bs → Bs
  | [], s => s
  | it :: l, s => Bk.each d l (if 0 ≤ it.2 then d s it.2 else s)
def Bk.drop : Nat → Bs → Int → Bs × Bool
  | 0, s, _ => (s, false)
  | f + 1, s, e =>
    if Ld.has s.e e = false then (s, false)
    else if (Ld.at s.e e).h = -2 then ({ s with e := s.e.set e.toNat { Ld.at s.e e with d := wp1 (Ld.at s.e e).d } }, false)
    else if (Ld.at s.e e).s = true then ({ s with e := s.e.set e.toNat { Ld.at s.e e with h := -2, d := wp1 (Ld.at s.e e).d } }, true)
    else (Bk.each (fun s e => (Bk.drop f s e).1) (s.i.getD (Ld.at s.e e).c.toNat []) ⟨s.e.set e.toNat { Ld.at s.e e with h := -2, d := wp1 (Ld.at s.e e).d }, s.i.set (Ld.at s.e e).c.toNat [], s.g.set (Ld.at s.e e).c.toNat true⟩, true)
/-- What stays as it was. -/
structure Rl (s s' : Bs) : Prop where
  le : s'.e.length = s.e.length
  ec : ∀ (k : Nat) (x : En), s'.e[k]? = some x → ∃ y, s.e[k]? = some y ∧ x.c = y.c ∧ x.s = y.s
  li : s'.i.length = s.i.length
  im : ∀ (k : Nat) M, s'.i[k]? = some M → M = [] ∨ s.i[k]? = some M
  lg : s'.g.length = s.g.length
  tt : Bk.tot s'.i ≤ Bk.tot s.i
theorem Rl.refl (s : Bs) : Rl s s := ⟨rfl, fun _ x h => ⟨x, h, rfl, rfl⟩, rfl, fun _ _ h => .inr h, rfl, Nat.le_refl _⟩
theorem Rl.trans {a b c : Bs} (h : Rl a b) (k : Rl b c) : Rl a c :=
  ⟨k.le.trans h.le, fun j x hx => by
    obtain ⟨y, hy, e1, e2⟩ := k.ec j x hx
    obtain ⟨z, hz, e3, e4⟩ := h.ec j y hy
    exact ⟨z, hz, e1.trans e3, e2.trans e4⟩, k.li.trans h.li, fun j M hM => (k.im j M hM).elim .inl (fun h1 => h.im j M h1), k.lg.trans h.lg, Nat.le_trans k.tt h.tt⟩
theorem Rl.ok {s s' : Bs} {S : List Int} (h : Rl s s') (o : BOk s.e S s.i s.g) : BOk s'.e S s'.i s'.g := by
  refine ⟨h.li.trans o.lI, h.lg.trans o.lG, fun x hx => ?_, fun M hM i hi => ?_, by rw [h.le]; exact o.le, o.ls, fun M hM => ?_⟩
  · obtain ⟨k, hk⟩ := List.mem_iff_getElem?.1 hx
    obtain ⟨y, hy, e1, -⟩ := h.ec k x hk
    rw [e1]
    exact o.ec y (List.mem_of_getElem? hy)
  · obtain ⟨k, hk⟩ := List.mem_iff_getElem?.1 hM
    rw [h.le]
    rcases h.im k M hk with rfl | h1
    · cases hi
    · exact o.ie M (List.mem_of_getElem? h1) i hi
  · obtain ⟨k, hk⟩ := List.mem_iff_getElem?.1 hM
    rcases h.im k M hk with rfl | h1
    · exact Nat.zero_le _
    · exact o.li M (List.mem_of_getElem? h1)
theorem Bk.tot_set {I : List (List (Int × Int))} : ∀ {c : Nat} {M : List (Int × Int)}, I[c]? = some M → Bk.tot (I.set c []) + M.length = Bk.tot I := by
  induction I with
  | nil => intro c M h; simp at h
  | cons A I ih =>
    intro c M h
    cases c with
    | zero => simp at h; subst h; simp [Bk.tot]; omega
    | succ c =>
      have := ih (c := c) (by simpa using h)
      simp only [Bk.tot, List.set_cons_succ, List.map_cons, List.sum_cons] at *
      omega
theorem Rl.sete {s : Bs} {k : Nat} {x y : En} (hx : s.e[k]? = some x) (h1 : y.c = x.c) (h2 : y.s = x.s) : Rl s { s with e := s.e.set k y } := by
  refine ⟨by simp, fun j z hz => ?_, rfl, fun _ _ h => .inr h, rfl, Nat.le_refl _⟩
  by_cases e : j = k
  · subst e
    have hz' : (s.e.set j y)[j]? = some z := hz
    rw [List.getElem?_set_self (List.getElem?_eq_some_iff.1 hx).1] at hz'
    cases hz'
    exact ⟨x, hx, h1, h2⟩
  · have hz' : (s.e.set k y)[j]? = some z := hz
    rw [List.getElem?_set_ne (fun e' => e e'.symm)] at hz'
    exact ⟨z, hz', rfl, rfl⟩
theorem Rl.seti {s : Bs} (c : Nat) (g' : List Bool) (hg : g'.length = s.g.length) : Rl s { s with i := s.i.set c [], g := g' } := by
  refine ⟨rfl, fun _ x h => ⟨x, h, rfl, rfl⟩, by simp, fun j M hM => ?_, hg, ?_⟩
  · have hM' : (s.i.set c [])[j]? = some M := hM
    by_cases e : j = c
    · subst e
      rw [List.getElem?_set] at hM'
      simp only [if_true] at hM'
      split at hM'
      · exact .inl (by injection hM' with e; exact e.symm)
      · cases hM'
    · rw [List.getElem?_set_ne (fun e' => e e'.symm)] at hM'
      exact .inr hM'
  · show Bk.tot (s.i.set c []) ≤ _
    by_cases hc : c < s.i.length
    · have := Bk.tot_set (I := s.i) (List.getElem?_eq_getElem hc)
      omega
    · rw [List.set_eq_of_length_le (by omega)]
      exact Nat.le_refl _
theorem Bk.each_rl {d : Bs → Int → Bs} (hd : ∀ s e, Rl s (d s e)) : ∀ (l : List (Int × Int)) (s : Bs), Rl s (Bk.each d l s) := by
  intro l
  induction l with
  | nil => intro s; exact Rl.refl s
  | cons it l ih =>
    intro s
    simp only [Bk.each]
    refine Rl.trans ?_ (ih _)
    split
    · exact hd _ _
    · exact Rl.refl _
theorem Bk.drop_rl : ∀ (f : Nat) (s : Bs) (e : Int), Rl s (Bk.drop f s e).1 := by
  intro f
  induction f with
  | zero => intro s e; exact Rl.refl s
  | succ f ih =>
    intro s e
    unfold Bk.drop
    rcases Ld.cs s.e e with ⟨k, x, rfl, hx, hk, h1, h2⟩ | ⟨h1, h2, -⟩
    · rw [h1, if_neg (by decide), h2, Int.toNat_natCast]
      split
      · exact Rl.sete hx rfl rfl
      · split
        · exact Rl.sete hx rfl rfl
        · refine Rl.trans (Rl.trans (Rl.sete (y := { x with h := -2, d := wp1 x.d }) hx rfl rfl) (Rl.seti x.c.toNat (s.g.set x.c.toNat true) (by simp))) (Bk.each_rl ih _ _)
    · rw [h1, if_pos rfl]
      exact Rl.refl s
theorem Bk.each_snoc {d : Bs → Int → Bs} (it : Int × Int) : ∀ (l : List (Int × Int)) (s : Bs), Bk.each d (l ++ [it]) s = (if 0 ≤ it.2 then d (Bk.each d l s) it.2 else Bk.each d l s) := by
  intro l
  induction l with
  | nil => intro s; rfl
  | cons a l ih => intro s; simp only [List.cons_append, Bk.each]; exact ih _
theorem Bk.each_take {d : Bs → Int → Bs} {l : List (Int × Int)} {k : Nat} {it : Int × Int} (h : l[k]? = some it) (s : Bs) : Bk.each d (l.take (k + 1)) s = (if 0 ≤ it.2 then d (Bk.each d (l.take k) s) it.2 else Bk.each d (l.take k) s) := by
  rw [List.take_add_one, h]
  exact Bk.each_snoc it _ s
end Go.Proofs.Ytbepaimbbclejaa

import Derived.Test.YtbepaimbbclejaaStGd
/- Channels, plain: each end is dropped once (what holds of a state that is reached without dropping twice). -/
namespace Go.Proofs.Ytbepaimbbclejaa
open Go.RowKit

/-- All ends that lie in channels. -/
def Bk.lays (I : List (List (Int × Int))) : List Int := I.flatMap Bk.lay
/-- Each end is dropped once at most, and lies in one place; R: ends that are still to be dropped. -/
structure On (s : Cst) (R : List Int) : Prop where
  c : ∀ x ∈ s.e, 0 ≤ x.c ∧ x.c.toNat < s.i.length
  d : ∀ x ∈ s.e, (x.d = 0 ∧ -1 ≤ x.h) ∨ (x.d = 1 ∧ x.h = -2)
  nd : (Bk.lays s.i ++ R).Nodup
  lie : ∀ j ∈ Bk.lays s.i ++ R, ∃ (k : Nat) (x : En), j = (k : Int) ∧ s.e[k]? = some x ∧ x.h = -1
  r : ∀ (k : Nat) (x : En), s.e[k]? = some x → x.s = false → s.g[x.c.toNat]? = some (decide (x.h = -2))
  u : ∀ (k m : Nat) (x y : En), s.e[k]? = some x → s.e[m]? = some y → x.s = false → y.s = false → x.c = y.c → k = m
  gi : ∀ c : Nat, s.g[c]? = some true → s.i[c]? = some []
  si : ∀ (c : Nat) sl M, s.s[c]? = some sl → s.i[c]? = some M → 0 < sl → (M.length : Int) ≤ sl
theorem On.c0 : On Bk.c0 [] := ⟨fun _ h => absurd h List.not_mem_nil, fun _ h => absurd h List.not_mem_nil, List.nodup_nil, fun _ h => absurd h List.not_mem_nil, fun k x h => by simp [Bk.c0] at h, fun k m x y h => by simp [Bk.c0] at h, fun c h => by simp [Bk.c0] at h, fun c sl M h => by simp [Bk.c0] at h⟩
theorem Bk.lays_mem {I : List (List (Int × Int))} {c : Nat} {M : List (Int × Int)} (h : I[c]? = some M) {j : Int} (hj : j ∈ Bk.lay M) : j ∈ Bk.lays I := List.mem_flatMap.2 ⟨M, List.mem_of_getElem? h, hj⟩
/-- A channel's items are taken out: what lay there is still to be dropped. -/
theorem Bk.lays_out : ∀ {I : List (List (Int × Int))} {c : Nat} {M : List (Int × Int)}, I[c]? = some M → (Bk.lays I).Perm (Bk.lays (I.set c []) ++ Bk.lay M) := by
  intro I
  induction I with
  | nil => intro c M h; simp at h
  | cons A I ih =>
    intro c M h
    cases c with
    | zero =>
      simp at h; subst h
      show (Bk.lay A ++ Bk.lays I).Perm ((Bk.lay [] ++ Bk.lays I) ++ Bk.lay A)
      exact List.perm_append_comm
    | succ c =>
      have := ih (c := c) (M := M) (by simpa using h)
      show (Bk.lay A ++ Bk.lays I).Perm ((Bk.lay A ++ Bk.lays (I.set c [])) ++ Bk.lay M)
      rw [List.append_assoc]
      exact this.append_left _
/-- One end is dropped that lies nowhere any more. -/
theorem On.gone {s : Cst} {R : List Int} (h : On s R) {k : Nat} {x : En} (hx : s.e[k]? = some x) (hh : x.h ≠ -2) (hs : x.s = true) (hn : (k : Int) ∉ Bk.lays s.i ++ R) (hd : wp1 0 = 1) : On { s with e := s.e.set k { x with h := -2, d := wp1 x.d } } R := by
  have hkl := (List.getElem?_eq_some_iff.1 hx).1
  have hx0 : x.d = 0 := by
    rcases h.d x (List.mem_of_getElem? hx) with h1 | h1
    · exact h1.1
    · exact absurd h1.2 hh
  have key : ∀ (m : Nat) (y : En), (s.e.set k { x with h := -2, d := wp1 x.d })[m]? = some y → (m = k ∧ y = { x with h := -2, d := wp1 x.d }) ∨ (m ≠ k ∧ s.e[m]? = some y) := fun m y hy => by
    by_cases e : m = k
    · subst e
      rw [List.getElem?_set_self hkl] at hy
      exact .inl ⟨rfl, by injection hy with hy; exact hy.symm⟩
    · rw [List.getElem?_set_ne (fun e' => e e'.symm)] at hy
      exact .inr ⟨e, hy⟩
  refine ⟨fun y hy => ?_, fun y hy => ?_, h.nd, fun j hj => ?_, fun m y hy hys => ?_, fun m m' y y' hy hy' h1 h2 h3 => ?_, h.gi, h.si⟩
  · obtain ⟨m, hm⟩ := List.mem_iff_getElem?.1 hy
    rcases key m y hm with ⟨-, rfl⟩ | ⟨-, h1⟩
    · exact h.c x (List.mem_of_getElem? hx)
    · exact h.c y (List.mem_of_getElem? h1)
  · obtain ⟨m, hm⟩ := List.mem_iff_getElem?.1 hy
    rcases key m y hm with ⟨-, rfl⟩ | ⟨-, h1⟩
    · exact .inr ⟨by simp only; rw [hx0, hd], rfl⟩
    · exact h.d y (List.mem_of_getElem? h1)
  · obtain ⟨m, y, rfl, hy, hyh⟩ := h.lie j hj
    refine ⟨m, y, rfl, ?_, hyh⟩
    have e : m ≠ k := fun e => hn (by rw [← e]; exact hj)
    show (s.e.set k _)[m]? = some y
    rw [List.getElem?_set_ne (fun e' => e e'.symm)]
    exact hy
  · rcases key m y hy with ⟨-, rfl⟩ | ⟨-, h1⟩
    · simp only at hys; rw [hs] at hys; cases hys
    · exact h.r m y h1 hys
  · rcases key m y hy with ⟨-, rfl⟩ | ⟨-, g1⟩
    · simp only at h1; rw [hs] at h1; cases h1
    · rcases key m' y' hy' with ⟨-, rfl⟩ | ⟨-, g2⟩
      · simp only at h2; rw [hs] at h2; cases h2
      · exact h.u m m' y y' g1 g2 h1 h2 h3
theorem On.goneR {s : Cst} {R : List Int} (h : On s R) {k : Nat} {x : En} (hx : s.e[k]? = some x) (hh : x.h ≠ -2) (hs : x.s = false) (hn : (k : Int) ∉ Bk.lays s.i ++ R) (hd : wp1 0 = 1) {c : Nat} {M : List (Int × Int)} (hc : x.c = (c : Int)) (hi : s.i[c]? = some M) : On ⟨s.e.set k { x with h := -2, d := wp1 x.d }, s.s, s.i.set c [], s.g.set c true⟩ (Bk.lay M ++ R) := by
  have hkl := (List.getElem?_eq_some_iff.1 hx).1
  have hil := (List.getElem?_eq_some_iff.1 hi).1
  have hg0 := h.r k x hx hs
  rw [hc, Int.toNat_natCast] at hg0
  have hgl := (List.getElem?_eq_some_iff.1 hg0).1
  have hx0 : x.d = 0 := by
    rcases h.d x (List.mem_of_getElem? hx) with h1 | h1
    · exact h1.1
    · exact absurd h1.2 hh
  have hp : (Bk.lays s.i ++ R).Perm (Bk.lays (s.i.set c []) ++ (Bk.lay M ++ R)) := by
    rw [← List.append_assoc]
    exact (Bk.lays_out hi).append_right R
  have key : ∀ (m : Nat) (y : En), (s.e.set k { x with h := -2, d := wp1 x.d })[m]? = some y → (m = k ∧ y = { x with h := -2, d := wp1 x.d }) ∨ (m ≠ k ∧ s.e[m]? = some y) := fun m y hy => by
    by_cases e : m = k
    · subst e
      rw [List.getElem?_set_self hkl] at hy
      exact .inl ⟨rfl, by injection hy with hy; exact hy.symm⟩
    · rw [List.getElem?_set_ne (fun e' => e e'.symm)] at hy
      exact .inr ⟨e, hy⟩
  refine ⟨fun y hy => ?_, fun y hy => ?_, hp.nodup_iff.1 h.nd, fun j hj => ?_, fun m y hy hys => ?_, fun m m' y y' hy hy' h1 h2 h3 => ?_, fun c' hc' => ?_, fun c' sl M' h1 h2 h3 => ?_⟩
  · obtain ⟨m, hm⟩ := List.mem_iff_getElem?.1 hy
    simp only [List.length_set]
    rcases key m y hm with ⟨-, rfl⟩ | ⟨-, h1⟩
    · exact h.c x (List.mem_of_getElem? hx)
    · exact h.c y (List.mem_of_getElem? h1)
  · obtain ⟨m, hm⟩ := List.mem_iff_getElem?.1 hy
    rcases key m y hm with ⟨-, rfl⟩ | ⟨-, h1⟩
    · exact .inr ⟨by simp only; rw [hx0, hd], rfl⟩
    · exact h.d y (List.mem_of_getElem? h1)
  · obtain ⟨m, y, rfl, hy, hyh⟩ := h.lie j (hp.mem_iff.2 hj)
    refine ⟨m, y, rfl, ?_, hyh⟩
    have e : m ≠ k := fun e => hn (by rw [← e]; exact hp.mem_iff.2 hj)
    show (s.e.set k _)[m]? = some y
    rw [List.getElem?_set_ne (fun e' => e e'.symm)]
    exact hy
  · show (s.g.set c true)[y.c.toNat]? = _
    rcases key m y hy with ⟨-, rfl⟩ | ⟨e, h1⟩
    · simp only [hc, Int.toNat_natCast]
      rw [List.getElem?_set_self hgl]
      rfl
    · have h2 := h.r m y h1 hys
      have h3 : y.c.toNat ≠ c := fun e3 => e (h.u m k y x h1 hx hys hs (by have := (h.c y (List.mem_of_getElem? h1)).1; omega))
      rw [List.getElem?_set_ne (fun e' => h3 e'.symm)]
      exact h2
  · have q1 : ∃ x', s.e[m]? = some x' ∧ x'.s = false ∧ x'.c = y.c := by
      rcases key m y hy with ⟨rfl, rfl⟩ | ⟨-, g1⟩
      · exact ⟨x, hx, hs, rfl⟩
      · exact ⟨y, g1, h1, rfl⟩
    have q2 : ∃ x', s.e[m']? = some x' ∧ x'.s = false ∧ x'.c = y'.c := by
      rcases key m' y' hy' with ⟨rfl, rfl⟩ | ⟨-, g1⟩
      · exact ⟨x, hx, hs, rfl⟩
      · exact ⟨y', g1, h2, rfl⟩
    obtain ⟨a, a1, a2, a3⟩ := q1
    obtain ⟨b, b1, b2, b3⟩ := q2
    exact h.u m m' a b a1 b1 a2 b2 (by rw [a3, b3, h3])
  · simp only at hc' ⊢
    by_cases e : c' = c
    · subst e; rw [List.getElem?_set_self hil]
    · rw [List.getElem?_set_ne (fun e' => e e'.symm)] at hc' ⊢
      exact h.gi c' hc'
  · simp only at h2
    by_cases e : c' = c
    · subst e; rw [List.getElem?_set_self hil] at h2; cases h2; simp; omega
    · rw [List.getElem?_set_ne (fun e' => e e'.symm)] at h2
      exact h.si c' sl M' h1 h2 h3
theorem wp1_0 : wp1 0 = 1 := by unfold wp1 wrap64; decide
/-- One end is dropped alone. -/
theorem On.alone {s : Cst} {R : List Int} (h : On s R) {j : Int} (hj : Ld.has s.e j = true) (hh : (Ld.at s.e j).h ≠ -2) (hn : j ∉ Bk.lays s.i ++ R) (A : Bs × Bool × List (Int × Int)) (hA : Bk.alone ⟨s.e, s.i, s.g⟩ j = A) : A.2.1 = true ∧ On ⟨A.1.e, s.s, A.1.i, A.1.g⟩ (Bk.lay A.2.2 ++ R) := by
  rcases Ld.cs s.e j with ⟨k, x, rfl, hx, hk, h1, h2⟩ | ⟨h1, -⟩
  · rw [h2] at hh
    have hb : (x.h == -2) = false := beq_eq_false_iff_ne.2 hh
    have hgon : Ld.gon s.e (k : Int) = s.e.set k { x with h := -2, d := wp1 x.d } := by unfold Ld.gon; rw [h1, h2, Int.toNat_natCast, if_pos rfl]
    unfold Bk.alone at hA
    simp only [hgon] at hA
    cases hs : x.s with
    | true =>
      have ht : Bk.there s.e (k : Int) false = false := by unfold Bk.there; rw [h1, h2, hs]; rfl
      rw [ht, if_neg (by decide), h1, h2, hb] at hA
      subst hA
      exact ⟨rfl, h.gone hx hh hs hn wp1_0⟩
    | false =>
      have ht : Bk.there s.e (k : Int) false = true := by unfold Bk.there; rw [h1, h2, hs, hb]; rfl
      obtain ⟨c0, c1⟩ := h.c x (List.mem_of_getElem? hx)
      have hi := List.getElem?_eq_getElem c1
      rw [ht, if_pos rfl, h2, List.getD_eq_getElem?_getD, hi] at hA
      subst hA
      exact ⟨rfl, h.goneR hx hh hs hn wp1_0 (c := x.c.toNat) (by omega) hi⟩
  · rw [h1] at hj; cases hj
theorem On.less {s : Cst} {j : Int} {R : List Int} (h : On s (j :: R)) : On s R ∧ Ld.has s.e j = true ∧ (Ld.at s.e j).h = -1 ∧ j ∉ Bk.lays s.i ++ R := by
  have hp : (Bk.lays s.i ++ j :: R).Perm (j :: (Bk.lays s.i ++ R)) := List.perm_middle
  have hnd := hp.nodup_iff.1 h.nd
  obtain ⟨k, x, rfl, hx, hxh⟩ := h.lie j (by simp)
  refine ⟨⟨h.c, h.d, (List.nodup_cons.1 hnd).2, fun i hi => h.lie i (hp.mem_iff.2 (List.mem_cons_of_mem _ hi)), h.r, h.u, h.gi, h.si⟩, ?_, ?_, (List.nodup_cons.1 hnd).1⟩
  · have := (List.getElem?_eq_some_iff.1 hx).1
    simp [Ld.has]; omega
  · rcases Ld.cs s.e (k : Int) with ⟨m, y, e, hy, -, -, h2⟩ | ⟨-, -, h3⟩
    · obtain rfl : k = m := by omega
      rw [hx] at hy; cases hy
      rw [h2]; exact hxh
    · have := (List.getElem?_eq_some_iff.1 hx).1
      exact absurd ⟨by omega, by omega⟩ h3
/-- All that is still to be dropped is dropped. -/
theorem On.drops : ∀ (n : Nat) (s : Cst) (R : List Int) (f : Nat), R.length + Bk.tot s.i ≤ n → Bk.tot s.i < f → On s R → On ⟨(Bk.drops f R ⟨s.e, s.i, s.g⟩).e, s.s, (Bk.drops f R ⟨s.e, s.i, s.g⟩).i, (Bk.drops f R ⟨s.e, s.i, s.g⟩).g⟩ [] := by
  intro n
  induction n with
  | zero =>
    intro s R f hn hf h
    obtain rfl : R = [] := List.length_eq_zero_iff.1 (by omega)
    exact h
  | succ n ih =>
    intro s R f hn hf h
    cases R with
    | nil => exact h
    | cons j R =>
      obtain ⟨h1, h2, h3, h4⟩ := h.less
      obtain ⟨A, hA⟩ : ∃ A, Bk.alone ⟨s.e, s.i, s.g⟩ j = A := ⟨_, rfl⟩
      obtain ⟨-, h5⟩ := h1.alone h2 (by rw [h3]; decide) h4 A hA
      have ht := Bk.alone_tot ⟨s.e, s.i, s.g⟩ j
      have hl := Bk.lay_len A.2.2
      rw [Bk.drops_step f j R ⟨s.e, s.i, s.g⟩ hf, hA]
      rw [hA] at ht
      simp only [List.length_cons] at hn ht
      exact ih ⟨A.1.e, s.s, A.1.i, A.1.g⟩ _ f (by simp; omega) (by simp; omega) h5
/-- A task's end is dropped. -/
theorem On.dp {s : Cst} (h : On s []) {j : Int} (hj : Ld.has s.e j = true) (hh : 0 ≤ (Ld.at s.e j).h) : On (Bk.dp s j) [] ∧ (Bk.dpR s j).2 = true := by
  have hn : j ∉ Bk.lays s.i ++ [] := fun hm => by
    obtain ⟨k, x, rfl, hx, hxh⟩ := h.lie j hm
    rcases Ld.cs s.e (k : Int) with ⟨m, y, e, hy, -, -, h2⟩ | ⟨h1, -⟩
    · obtain rfl : k = m := by omega
      rw [hx] at hy; cases hy
      rw [h2, hxh] at hh; omega
    · rw [h1] at hj; cases hj
  obtain ⟨A, hA⟩ : ∃ A, Bk.alone ⟨s.e, s.i, s.g⟩ j = A := ⟨_, rfl⟩
  obtain ⟨h4, h5⟩ := h.alone hj (by omega) hn A hA
  have ht := Bk.alone_tot ⟨s.e, s.i, s.g⟩ j
  have hst := Bk.drops_step (Bk.tot s.i + 1) j [] ⟨s.e, s.i, s.g⟩ (by simp)
  rw [hA] at hst ht
  simp only at ht
  refine ⟨?_, ?_⟩
  · have := On.drops _ ⟨A.1.e, s.s, A.1.i, A.1.g⟩ _ (Bk.tot s.i + 1) (Nat.le_refl _) (by simp only; omega) h5
    have e : (Bk.dpR s j).1 = Bk.drops (Bk.tot s.i + 1) (Bk.lay A.2.2 ++ []) A.1 := hst
    unfold Bk.dp
    rw [e]
    exact this
  · unfold Bk.dpR
    rw [Bk.drop_alone, hA]
    exact h4
end Go.Proofs.Ytbepaimbbclejaa
/- Channels, plain: each end is dropped once, whatever is done. -/
namespace Go.Proofs.Ytbepaimbbclejaa
open Go.RowKit

/-- Other items, and an end's home. -/
theorem On.home {s : Cst} (h : On s []) {k : Nat} {x : En} (hx : s.e[k]? = some x) (hh : x.h ≠ -2) {h' : Int} (hh' : -1 ≤ h') {i' : List (List (Int × Int))} (hl : i'.length = s.i.length) (nd : (Bk.lays i').Nodup) (lie : ∀ j ∈ Bk.lays i', (j = (k : Int) ∧ h' = -1) ∨ (j ≠ (k : Int) ∧ j ∈ Bk.lays s.i)) (gi : ∀ c : Nat, s.g[c]? = some true → i'[c]? = some []) (si : ∀ (c : Nat) sl M, s.s[c]? = some sl → i'[c]? = some M → 0 < sl → (M.length : Int) ≤ sl) : On ⟨s.e.set k { x with h := h' }, s.s, i', s.g⟩ [] := by
  have hkl := (List.getElem?_eq_some_iff.1 hx).1
  have key : ∀ (m : Nat) (y : En), (s.e.set k { x with h := h' })[m]? = some y → (m = k ∧ y = { x with h := h' }) ∨ (m ≠ k ∧ s.e[m]? = some y) := fun m y hy => by
    by_cases e : m = k
    · subst e
      rw [List.getElem?_set_self hkl] at hy
      exact .inl ⟨rfl, by injection hy with hy; exact hy.symm⟩
    · rw [List.getElem?_set_ne (fun e' => e e'.symm)] at hy
      exact .inr ⟨e, hy⟩
  refine ⟨fun y hy => ?_, fun y hy => ?_, by rw [List.append_nil]; exact nd, fun j hj => ?_, fun m y hy hys => ?_, fun m m' y y' hy hy' h1 h2 h3 => ?_, gi, si⟩
  · obtain ⟨m, hm⟩ := List.mem_iff_getElem?.1 hy
    simp only [hl]
    rcases key m y hm with ⟨-, rfl⟩ | ⟨-, h1⟩
    · exact h.c x (List.mem_of_getElem? hx)
    · exact h.c y (List.mem_of_getElem? h1)
  · obtain ⟨m, hm⟩ := List.mem_iff_getElem?.1 hy
    rcases key m y hm with ⟨-, rfl⟩ | ⟨-, h1⟩
    · rcases h.d x (List.mem_of_getElem? hx) with g1 | g1
      · exact .inl ⟨g1.1, hh'⟩
      · exact absurd g1.2 hh
    · exact h.d y (List.mem_of_getElem? h1)
  · rw [List.append_nil] at hj
    rcases lie j hj with ⟨rfl, e⟩ | ⟨e, hm⟩
    · exact ⟨k, _, rfl, List.getElem?_set_self hkl, e⟩
    · obtain ⟨m, y, rfl, hy, hyh⟩ := h.lie j (by rw [List.append_nil]; exact hm)
      refine ⟨m, y, rfl, ?_, hyh⟩
      show (s.e.set k _)[m]? = some y
      rw [List.getElem?_set_ne (fun e' => e (by rw [e']))]
      exact hy
  · rcases key m y hy with ⟨-, rfl⟩ | ⟨-, h1⟩
    · have := h.r k x hx hys
      simp only
      rw [this, decide_eq_false hh, decide_eq_false (by omega : ¬ h' = -2)]
    · exact h.r m y h1 hys
  · have q1 : ∃ x', s.e[m]? = some x' ∧ x'.s = false ∧ x'.c = y.c := by
      rcases key m y hy with ⟨rfl, rfl⟩ | ⟨-, g1⟩
      · exact ⟨x, hx, h1, rfl⟩
      · exact ⟨y, g1, h1, rfl⟩
    have q2 : ∃ x', s.e[m']? = some x' ∧ x'.s = false ∧ x'.c = y'.c := by
      rcases key m' y' hy' with ⟨rfl, rfl⟩ | ⟨-, g1⟩
      · exact ⟨x, hx, h2, rfl⟩
      · exact ⟨y', g1, h2, rfl⟩
    obtain ⟨a, a1, a2, a3⟩ := q1
    obtain ⟨b, b1, b2, b3⟩ := q2
    exact h.u m m' a b a1 b1 a2 b2 (by rw [a3, b3, h3])
/-- Other items, numbers alone. -/
theorem On.nums {s : Cst} (h : On s []) {i' : List (List (Int × Int))} (hl : i'.length = s.i.length) (nd : (Bk.lays i').Nodup) (lie : ∀ j ∈ Bk.lays i', j ∈ Bk.lays s.i) (gi : ∀ c : Nat, s.g[c]? = some true → i'[c]? = some []) (si : ∀ (c : Nat) sl M, s.s[c]? = some sl → i'[c]? = some M → 0 < sl → (M.length : Int) ≤ sl) : On ⟨s.e, s.s, i', s.g⟩ [] :=
  ⟨fun y hy => by simp only [hl]; exact h.c y hy, h.d, by rw [List.append_nil]; exact nd, fun j hj => h.lie j (by rw [List.append_nil] at hj ⊢; exact lie j hj), h.r, h.u, gi, si⟩
theorem Bk.lays_set : ∀ {I : List (List (Int × Int))} {c : Nat} (_ : c < I.length) (M' : List (Int × Int)), (Bk.lays (I.set c M')).Perm (Bk.lays (I.set c []) ++ Bk.lay M') := by
  intro I c hc M'
  have := Bk.lays_out (I := I.set c M') (c := c) (M := M') (List.getElem?_set_self hc)
  rwa [List.set_set] at this
theorem On.make {k : Nat} {s : Cst} (h : On s []) (w : Wf k s) (sl t : Int) : On (Bk.mk s sl t) [] := by
  unfold Bk.mk
  split
  · exact h
  · have lI := w.o.lI
    have lG := w.o.lG
    have hly : Bk.lays (s.i ++ [[]]) = Bk.lays s.i := by simp [Bk.lays, Bk.lay]
    have key : ∀ (m : Nat) (y : En), (s.e ++ [⟨s.s.length, true, t, 0⟩, ⟨s.s.length, false, t, 0⟩])[m]? = some y → (m < s.e.length ∧ s.e[m]? = some y) ∨ (m = s.e.length ∧ y = ⟨s.s.length, true, t, 0⟩) ∨ (m = s.e.length + 1 ∧ y = ⟨s.s.length, false, t, 0⟩) := fun m y hy => by
      rcases Nat.lt_or_ge m s.e.length with g | g
      · rw [List.getElem?_append_left g] at hy; exact .inl ⟨g, hy⟩
      · rw [List.getElem?_append_right g] at hy
        match hm : m - s.e.length, hy with
        | 0, hy => exact .inr (.inl ⟨by omega, by simpa using hy.symm⟩)
        | 1, hy => exact .inr (.inr ⟨by omega, by simpa using hy.symm⟩)
        | n + 2, hy => simp at hy
    refine ⟨fun y hy => ?_, fun y hy => ?_, by simp only [hly]; exact h.nd, fun j hj => ?_, fun m y hy hys => ?_, fun m m' y y' hy hy' h1 h2 h3 => ?_, fun c hc => ?_, fun c sl' M h1 h2 h3 => ?_⟩
    · obtain ⟨m, hm⟩ := List.mem_iff_getElem?.1 hy
      simp only [List.length_append, List.length_singleton]
      rcases key m y hm with ⟨-, g⟩ | ⟨-, rfl⟩ | ⟨-, rfl⟩
      · have := h.c y (List.mem_of_getElem? g); omega
      · simp; omega
      · simp; omega
    · obtain ⟨m, hm⟩ := List.mem_iff_getElem?.1 hy
      rcases key m y hm with ⟨-, g⟩ | ⟨-, rfl⟩ | ⟨-, rfl⟩
      · exact h.d y (List.mem_of_getElem? g)
      · exact .inl ⟨rfl, by simp only; omega⟩
      · exact .inl ⟨rfl, by simp only; omega⟩
    · simp only [hly] at hj
      obtain ⟨m, y, rfl, hy, hyh⟩ := h.lie j hj
      exact ⟨m, y, rfl, by show (s.e ++ _)[m]? = _; rw [List.getElem?_append_left (List.getElem?_eq_some_iff.1 hy).1]; exact hy, hyh⟩
    · show (s.g ++ [false])[y.c.toNat]? = _
      rcases key m y hy with ⟨-, g⟩ | ⟨-, rfl⟩ | ⟨-, rfl⟩
      · have := h.c y (List.mem_of_getElem? g)
        rw [List.getElem?_append_left (by omega)]
        exact h.r m y g hys
      · cases hys
      · simp only [Int.toNat_natCast]
        rw [List.getElem?_append_right (by omega), lG, Nat.sub_self, decide_eq_false (by omega : ¬ t = -2)]
        rfl
    · rcases key m y hy with ⟨-, g⟩ | ⟨-, rfl⟩ | ⟨e, rfl⟩ <;> rcases key m' y' hy' with ⟨-, g'⟩ | ⟨-, rfl⟩ | ⟨e', rfl⟩
      · exact h.u m m' y y' g g' h1 h2 h3
      · cases h2
      · have := (w.o.ec y (List.mem_of_getElem? g)).2; simp only at h3; omega
      · cases h1
      · cases h1
      · cases h1
      · have := (w.o.ec y' (List.mem_of_getElem? g')).2; simp only at h3; omega
      · cases h2
      · omega
    · show (s.i ++ [[]])[c]? = _
      have hc' : (s.g ++ [false])[c]? = some true := hc
      rcases Nat.lt_or_ge c s.g.length with g | g
      · rw [List.getElem?_append_left g] at hc'
        rw [List.getElem?_append_left (by omega)]
        exact h.gi c hc'
      · rw [List.getElem?_append_right g] at hc'
        match c - s.g.length, hc' with
        | 0, hc' => simp at hc'
        | n + 1, hc' => simp at hc'
    · have h1' : (s.s ++ [max sl 0])[c]? = some sl' := h1
      have h2' : (s.i ++ [[]])[c]? = some M := h2
      rcases Nat.lt_or_ge c s.s.length with g | g
      · rw [List.getElem?_append_left g] at h1'
        rw [List.getElem?_append_left (by omega)] at h2'
        exact h.si c sl' M h1' h2' h3
      · rw [List.getElem?_append_right (by omega)] at h2'
        match c - s.i.length, h2' with
        | 0, h2' => simp at h2'; subst h2'; simp; omega
        | n + 1, h2' => simp at h2'
theorem On.clone {k : Nat} {s : Cst} (h : On s []) (w : Wf k s) (e t : Int) : On (Bk.cl s e t) [] := by
  unfold Bk.cl
  split
  · rename_i hq
    obtain ⟨q1, q2⟩ := clQ_yes hq
    obtain ⟨c, hc, hcl, -⟩ := w.here q1
    have lI := w.o.lI
    have key : ∀ (m : Nat) (y : En), (s.e ++ [⟨(Ld.at s.e e).c, true, t, 0⟩])[m]? = some y → (m < s.e.length ∧ s.e[m]? = some y) ∨ (m = s.e.length ∧ y = ⟨(Ld.at s.e e).c, true, t, 0⟩) := fun m y hy => by
      rcases Nat.lt_or_ge m s.e.length with g | g
      · rw [List.getElem?_append_left g] at hy; exact .inl ⟨g, hy⟩
      · rw [List.getElem?_append_right g] at hy
        match hm : m - s.e.length, hy with
        | 0, hy => exact .inr ⟨by omega, by simpa using hy.symm⟩
        | n + 1, hy => simp at hy
    refine ⟨fun y hy => ?_, fun y hy => ?_, h.nd, fun j hj => ?_, fun m y hy hys => ?_, fun m m' y y' hy hy' h1 h2 h3 => ?_, h.gi, h.si⟩
    · obtain ⟨m, hm⟩ := List.mem_iff_getElem?.1 hy
      rcases key m y hm with ⟨-, g⟩ | ⟨-, rfl⟩
      · exact h.c y (List.mem_of_getElem? g)
      · simp only [hc, Int.toNat_natCast]; omega
    · obtain ⟨m, hm⟩ := List.mem_iff_getElem?.1 hy
      rcases key m y hm with ⟨-, g⟩ | ⟨-, rfl⟩
      · exact h.d y (List.mem_of_getElem? g)
      · exact .inl ⟨rfl, by simp only; omega⟩
    · obtain ⟨m, y, rfl, hy, hyh⟩ := h.lie j hj
      exact ⟨m, y, rfl, by show (s.e ++ _)[m]? = _; rw [List.getElem?_append_left (List.getElem?_eq_some_iff.1 hy).1]; exact hy, hyh⟩
    · rcases key m y hy with ⟨-, g⟩ | ⟨-, rfl⟩
      · exact h.r m y g hys
      · cases hys
    · rcases key m y hy with ⟨-, g⟩ | ⟨-, rfl⟩
      · rcases key m' y' hy' with ⟨-, g'⟩ | ⟨-, rfl⟩
        · exact h.u m m' y y' g g' h1 h2 h3
        · cases h2
      · cases h1
  · exact h
theorem Ld.at_some {E : List En} {j : Int} (h : Ld.has E j = true) : ∃ (k : Nat), j = (k : Int) ∧ E[k]? = some (Ld.at E j) := by
  rcases Ld.cs E j with ⟨k, x, rfl, hx, -, -, h2⟩ | ⟨h1, -⟩
  · exact ⟨k, rfl, by rw [h2]; exact hx⟩
  · rw [h1] at h; cases h
theorem wt_room {s : Cst} {k : Nat} (w : Wf k s) {e : Int} (q1 : Bk.there s.e e true = true) (q2 : Bk.wt s e = false) (hg : Bk.gn s e = false) {sl : Int} (hs : s.s[(Ld.at s.e e).c.toNat]? = some sl) (h0 : 0 < sl) : ((Bk.its s e).length : Int) < sl := by
  obtain ⟨c, hc, hcl, hi, hg', -⟩ := w.here q1
  unfold Bk.wt Bk.waits at q2
  rw [q1, if_pos rfl] at q2
  simp only [List.getD_eq_getElem?_getD, hs, hi, hg', Option.getD_some, hg, Bool.not_false, Bool.true_and, decide_eq_true h0, decide_eq_false_iff_not] at q2
  omega
theorem On.put {k : Nat} {s : Cst} (h : On s []) (w : Wf k s) (e n en : Int) : On (Bk.pt s e n en) [] := by
  unfold Bk.pt
  split
  · rename_i hq
    obtain ⟨q1, q2, q3⟩ := ptQ_yes hq
    cases hg : Bk.gn s e with
    | true =>
      simp only [if_true]
      split
      · exact h
      · rename_i hen
        rcases q3 with q3 | ⟨q3, q4⟩
        · exact absurd q3 hen
        · obtain ⟨a1, a2, -⟩ := may_yes q4
          exact (h.dp a1 a2).1
    | false =>
      simp only [Bool.false_eq_true, if_false]
      obtain ⟨c, hc, hcl, hi, hg', -⟩ := w.here q1
      rw [hg] at hg'
      have hil := (List.getElem?_eq_some_iff.1 hi).1
      have hnd := h.nd
      rw [List.append_nil] at hnd
      have p1 := Bk.lays_set hil (Bk.its s e ++ [Bk.pln n en])
      have p2 := Bk.lays_out hi
      have hlay : Bk.lay (Bk.its s e ++ [Bk.pln n en]) = Bk.lay (Bk.its s e) ++ Bk.lay [Bk.pln n en] := by simp [Bk.lay]
      rw [hlay, ← List.append_assoc] at p1
      have p3 := p1.trans (p2.symm.append_right (Bk.lay [Bk.pln n en]))
      have gi : ∀ c' : Nat, s.g[c']? = some true → (s.i.set (Ld.at s.e e).c.toNat (Bk.its s e ++ [Bk.pln n en]))[c']? = some [] := fun c' hc' => by
        rw [List.getElem?_set_ne (fun e' => by rw [← e', hg'] at hc'; cases hc')]
        exact h.gi c' hc'
      have si : ∀ (c' : Nat) sl M, s.s[c']? = some sl → (s.i.set (Ld.at s.e e).c.toNat (Bk.its s e ++ [Bk.pln n en]))[c']? = some M → 0 < sl → (M.length : Int) ≤ sl := fun c' sl M h1 h2 h3 => by
        by_cases e' : (Ld.at s.e e).c.toNat = c'
        · subst e'
          rw [List.getElem?_set_self hil] at h2
          cases h2
          have := wt_room w q1 q2 hg h1 h3
          simp; omega
        · rw [List.getElem?_set_ne e'] at h2
          exact h.si c' sl M h1 h2 h3
      rcases q3 with q3 | ⟨q3, q4⟩
      · have e1 : Bk.pln n en = (n, -1) := by unfold Bk.pln; rw [if_neg (by omega)]
        have e2 : Bk.lay [Bk.pln n en] = [] := by rw [e1]; simp [Bk.lay]
        rw [e2, List.append_nil] at p3
        have hmv : Ld.move s.e (Bk.pln n en).2 (-1) = s.e := by rw [e1]; exact move_neg _ _
        rw [hmv]
        exact h.nums (by simp) (p3.nodup_iff.2 hnd) (fun j hj => p3.mem_iff.1 hj) gi si
      · have e1 : Bk.pln n en = (0, en) := by unfold Bk.pln; rw [if_pos q3]
        have e2 : Bk.lay [Bk.pln n en] = [en] := by rw [e1]; simp [Bk.lay, q3]
        rw [e2] at p3
        obtain ⟨a1, a2, a3⟩ := may_yes q4
        obtain ⟨m, hm, hx⟩ := Ld.at_some a1
        have hmv : Ld.move s.e (Bk.pln n en).2 (-1) = s.e.set m { Ld.at s.e en with h := -1 } := by rw [e1, move_may q4]; simp only [hm, Int.toNat_natCast]
        rw [hmv]
        have hnot : en ∉ Bk.lays s.i := fun hin => by
          obtain ⟨m2, y, e4, hy, hyh⟩ := h.lie en (by rw [List.append_nil]; exact hin)
          obtain rfl : m = m2 := by omega
          rw [hx] at hy; cases hy
          omega
        refine h.home hx (by omega) (by omega) (by simp) (p3.nodup_iff.2 ?_) (fun j hj => ?_) gi si
        · rw [List.nodup_append]
          exact ⟨hnd, by simp, fun a ha b hb => by simp at hb; subst hb; exact fun e => hnot (by rw [← e]; exact ha)⟩
        · have := p3.mem_iff.1 hj
          rw [List.mem_append] at this
          rcases this with h1 | h1
          · exact .inr ⟨fun e => hnot (by rw [hm, ← e]; exact h1), h1⟩
          · simp at h1; exact .inl ⟨by rw [h1, hm], rfl⟩
  · exact h
theorem On.take {k : Nat} {s : Cst} (h : On s []) (w : Wf k s) (e t : Int) : On (Bk.tk s e t) [] := by
  unfold Bk.tk
  split
  · rename_i hq
    obtain ⟨q1, q2, q3⟩ := tkQ_yes hq
    obtain ⟨c, hc, hcl, hi, hg', -⟩ := w.here q1
    cases hM : Bk.its s e with
    | nil => exact h
    | cons x M =>
      obtain ⟨x1, x2⟩ := x
      rw [hM] at hi
      simp only
      have hil := (List.getElem?_eq_some_iff.1 hi).1
      have hnd := h.nd
      rw [List.append_nil] at hnd
      have p1 := Bk.lays_set hil M
      have p2 := Bk.lays_out hi
      have gi : ∀ c' : Nat, s.g[c']? = some true → (s.i.set (Ld.at s.e e).c.toNat M)[c']? = some [] := fun c' hc' => by
        have h1 := h.gi c' hc'
        by_cases e' : (Ld.at s.e e).c.toNat = c'
        · subst e'; rw [hi] at h1; cases h1
        · rw [List.getElem?_set_ne e']; exact h1
      have si : ∀ (c' : Nat) sl M', s.s[c']? = some sl → (s.i.set (Ld.at s.e e).c.toNat M)[c']? = some M' → 0 < sl → (M'.length : Int) ≤ sl := fun c' sl M' h1 h2 h3 => by
        by_cases e' : (Ld.at s.e e).c.toNat = c'
        · subst e'
          rw [List.getElem?_set_self hil] at h2
          cases h2
          have := h.si _ sl _ h1 hi h3
          simp at this; omega
        · rw [List.getElem?_set_ne e'] at h2
          exact h.si c' sl M' h1 h2 h3
      by_cases hx2 : 0 ≤ x2
      · have hlay : Bk.lay ((x1, x2) :: M) = x2 :: Bk.lay M := by simp [Bk.lay, hx2]
        rw [hlay] at p2
        have p3 : (Bk.lays s.i).Perm (x2 :: Bk.lays (s.i.set (Ld.at s.e e).c.toNat M)) := p2.trans (List.perm_middle.trans (p1.symm.cons x2))
        have hnd' := p3.nodup_iff.1 hnd
        obtain ⟨m, y, hm, hy, hyh⟩ := h.lie x2 (by rw [List.append_nil]; exact p3.mem_iff.2 (by simp))
        have hat : Ld.at s.e x2 = y ∧ Ld.has s.e x2 = true := by
          rcases Ld.cs s.e x2 with ⟨m2, y2, e4, hy2, -, a1, a2⟩ | ⟨-, -, a3⟩
          · obtain rfl : m = m2 := by omega
            rw [hy] at hy2; cases hy2
            exact ⟨a2, a1⟩
          · have := (List.getElem?_eq_some_iff.1 hy).1
            exact absurd ⟨by omega, by omega⟩ a3
        have hmv : Ld.move s.e x2 t = s.e.set m { y with h := t } := by
          unfold Ld.move Ld.may
          rw [hat.1, hat.2, decide_eq_true (by omega : -1 ≤ t), beq_eq_false_iff_ne.2 (by omega : y.h ≠ -2), hm, Int.toNat_natCast]
          rfl
        rw [hmv]
        refine h.home hy (by omega) (by omega) (by simp) (List.nodup_cons.1 hnd').2 (fun j hj => .inr ⟨fun e => (List.nodup_cons.1 hnd').1 (by rw [hm, ← e]; exact hj), p3.mem_iff.2 (List.mem_cons_of_mem _ hj)⟩) gi si
      · have hlay : Bk.lay ((x1, x2) :: M) = Bk.lay M := by simp [Bk.lay, hx2]
        rw [hlay] at p2
        have p3 := p1.trans p2.symm
        have hmv : Ld.move s.e x2 t = s.e := by
          have : Ld.has s.e x2 = false := by simp [Ld.has]; omega
          unfold Ld.move Ld.may
          rw [this]
          rfl
        rw [hmv]
        exact h.nums (by simp) (p3.nodup_iff.2 hnd) (fun j hj => p3.mem_iff.1 hj) gi si
  · exact h
/-- A step that drops a task's end at most. -/
theorem On.op {k : Nat} {s : Cst} (h : On s []) (w : Wf k s) (m : Nat) (e t n : Int) (g : Bool) (hm : m < 8 ∨ (Ld.has s.e e = true ∧ 0 ≤ (Ld.at s.e e).h)) : On (Bk.op m e t n g s) [] := by
  unfold Bk.op
  split
  · exact h.make w n t
  · split
    · exact h.clone w e t
    · split
      · exact h.put w e n _
      · split
        · exact h.take w e t
        · rcases hm with hm | hm
          · omega
          · exact (h.dp hm.1 hm.2).1
end Go.Proofs.Ytbepaimbbclejaa
/- Channels, plain: the sweep: when all ends that tasks have were dropped, none has any. -/
namespace Go.Proofs.Ytbepaimbbclejaa
open Go.RowKit

/-- Homes stay, or are those of dropped ends. -/
def Hn (s s' : Bs) : Prop := ∀ (k : Nat) (y : En), s'.e[k]? = some y → ∃ x, s.e[k]? = some x ∧ (y.h = x.h ∨ y.h = -2)
theorem Hn.refl (s : Bs) : Hn s s := fun _ y h => ⟨y, h, .inl rfl⟩
theorem Hn.trans {a b c : Bs} (h : Hn a b) (g : Hn b c) : Hn a c := fun k y hy => by
  obtain ⟨x, hx, h1⟩ := g k y hy
  obtain ⟨z, hz, h2⟩ := h k x hx
  refine ⟨z, hz, ?_⟩
  rcases h1 with h1 | h1
  · rw [h1]; exact h2
  · exact .inr h1
theorem Hn.gon (s : Bs) (e : Int) (i : List (List (Int × Int))) (g : List Bool) : Hn s ⟨Ld.gon s.e e, i, g⟩ := fun k y hy => by
  unfold Ld.gon at hy
  rcases Ld.cs s.e e with ⟨m, x, rfl, hx, hk, h1, h2⟩ | ⟨h1, h2, -⟩
  · simp only [h1, h2, Int.toNat_natCast, if_true] at hy
    by_cases e : k = m
    · subst e
      rw [List.getElem?_set_self hk] at hy
      cases hy
      exact ⟨x, hx, .inr rfl⟩
    · rw [List.getElem?_set_ne (fun e' => e e'.symm)] at hy
      exact ⟨y, hy, .inl rfl⟩
  · simp only [h1, Bool.false_eq_true, if_false] at hy
    exact ⟨y, hy, .inl rfl⟩
theorem Hn.alone (s : Bs) (e : Int) : Hn s (Bk.alone s e).1 := by
  unfold Bk.alone
  split
  · exact Hn.gon s e _ _
  · exact Hn.gon s e _ _
theorem Hn.each {d : Bs → Int → Bs} (hd : ∀ s e, Hn s (d s e)) : ∀ (l : List (Int × Int)) (s : Bs), Hn s (Bk.each d l s) := by
  intro l
  induction l with
  | nil => intro s; exact Hn.refl s
  | cons it l ih =>
    intro s
    simp only [Bk.each]
    refine Hn.trans ?_ (ih _)
    split
    · exact hd _ _
    · exact Hn.refl _
theorem Hn.drop : ∀ (f : Nat) (s : Bs) (e : Int), Hn s (Bk.drop f s e).1 := by
  intro f
  induction f with
  | zero => intro s e; exact Hn.refl s
  | succ f ih =>
    intro s e
    rw [Bk.drop_alone]
    exact (Hn.alone s e).trans (Hn.each ih _ _)
/-- An end that was dropped has that for its home. -/
theorem dp_home {s : Cst} {k : Nat} {y : En} (h : (Bk.dp s (k : Int)).e[k]? = some y) : y.h = -2 := by
  have h' : (Bk.drop (Bk.tot s.i + 1) ⟨s.e, s.i, s.g⟩ (k : Int)).1.e[k]? = some y := h
  rw [Bk.drop_alone] at h'
  obtain ⟨x, hx, h1⟩ := Hn.each (Hn.drop (Bk.tot s.i)) _ _ k y h'
  have hx2 : x.h = -2 := by
    have key : (Ld.gon s.e (k : Int))[k]? = some x := by
      unfold Bk.alone at hx
      split at hx <;> exact hx
    unfold Ld.gon at key
    rcases Ld.cs s.e (k : Int) with ⟨m, z, e, hz, hk, a1, a2⟩ | ⟨a1, a2, a3⟩
    · obtain rfl : k = m := by omega
      simp only [a1, Int.toNat_natCast, if_true] at key
      rw [List.getElem?_set_self hk] at key
      cases key
      rfl
    · simp only [a1, Bool.false_eq_true, if_false] at key
      have := (List.getElem?_eq_some_iff.1 key).1
      exact absurd ⟨by omega, by omega⟩ a3
  rcases h1 with h1 | h1
  · rw [h1]; exact hx2
  · exact h1
theorem dp_hn (s : Cst) (e : Int) : ∀ (k : Nat) (y : En), (Bk.dp s e).e[k]? = some y → ∃ x, s.e[k]? = some x ∧ (y.h = x.h ∨ y.h = -2) := Hn.drop (Bk.tot s.i + 1) ⟨s.e, s.i, s.g⟩ e
/-- The sweep, as far as it has come. -/
def Sw (i : Nat) (s : Cst) : Prop := ∀ (k : Nat) (y : En), k < i → s.e[k]? = some y → y.h < 0
theorem Sw.skip {i : Nat} {s : Cst} (h : Sw i s) {x : En} (hx : s.e[i]? = some x) (hh : x.h < 0) : Sw (i + 1) s := fun k y hk hy => by
  by_cases e : k = i
  · subst e; rw [hx] at hy; cases hy; exact hh
  · exact h k y (by omega) hy
theorem Sw.drop {i : Nat} {s : Cst} (h : Sw i s) : Sw (i + 1) (Bk.dp s (i : Int)) := fun k y hk hy => by
  by_cases e : k = i
  · subst e; have := dp_home hy; omega
  · obtain ⟨x, hx, h1⟩ := dp_hn s _ k y hy
    have := h k x (by omega) hx
    rcases h1 with h1 | h1 <;> omega
end Go.Proofs.Ytbepaimbbclejaa

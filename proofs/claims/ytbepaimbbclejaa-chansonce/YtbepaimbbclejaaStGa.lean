import Derived.Test.YtbepaimbbclejaaStH
import Derived.Deep.Upon
/- Package chans, plain: Drop by a row of what is left to drop. -/
namespace Go.Proofs.Ytbepaimbbclejaa
open Go.RowKit

/-- One end is dropped alone: what is then, was it there, what lay in its channel. -/
def Bk.alone (s : Bs) (e : Int) : Bs × Bool × List (Int × Int) :=
  if Bk.there s.e e false then (⟨Ld.gon s.e e, s.i.set (Ld.at s.e e).c.toNat [], s.g.set (Ld.at s.e e).c.toNat true⟩, true, s.i.getD (Ld.at s.e e).c.toNat [])
  else (⟨Ld.gon s.e e, s.i, s.g⟩, Ld.has s.e e && !((Ld.at s.e e).h == -2), [])
theorem Bk.drop_alone (f : Nat) (s : Bs) (e : Int) : Bk.drop (f + 1) s e = (Bk.each (fun s e => (Bk.drop f s e).1) (Bk.alone s e).2.2 (Bk.alone s e).1, (Bk.alone s e).2.1) := by
  conv => lhs; unfold Bk.drop
  unfold Bk.alone Bk.there Ld.gon
  obtain ⟨E, I, G⟩ := s
  simp only
  rcases Ld.cs E e with ⟨k, x, rfl, hx, hk, h1, h2⟩ | ⟨h1, h2, -⟩
  · rw [h1, h2, Int.toNat_natCast]
    by_cases e1 : x.h = -2
    · have d1 : (x.h == -2) = true := by rw [e1]; rfl
      simp only [e1, if_true]
      have : ({ x with h := -2, d := wp1 x.d } : En) = { x with d := wp1 x.d } := by rw [← e1]
      rw [this]
      simp [Bk.each]
    · have d1 : (x.h == -2) = false := beq_eq_false_iff_ne.2 e1
      simp only [if_neg e1, d1]
      cases hs : x.s with
      | true => simp [Bk.each]
      | false => simp
  · simp [h1, Bk.each]
/-- More fuel changes nothing. -/
theorem Bk.each_congr {d d' : Bs → Int → Bs} {n : Nat} (hd : ∀ s e, Bk.tot s.i ≤ n → d s e = d' s e) (hr : ∀ s e, Rl s (d s e)) : ∀ (l : List (Int × Int)) (s : Bs), Bk.tot s.i ≤ n → Bk.each d l s = Bk.each d' l s := by
  intro l
  induction l with
  | nil => intro s _; rfl
  | cons it l ih =>
    intro s hs
    simp only [Bk.each]
    split
    · rw [← hd s it.2 hs]
      exact ih _ (Nat.le_trans (hr s it.2).tt hs)
    · exact ih _ hs
theorem Bk.alone_tot (s : Bs) (e : Int) : Bk.tot (Bk.alone s e).1.i + (Bk.alone s e).2.2.length ≤ Bk.tot s.i := by
  unfold Bk.alone
  split
  · rename_i ht
    simp only
    by_cases hc : (Ld.at s.e e).c.toNat < s.i.length
    · have := Bk.tot_set (I := s.i) (List.getElem?_eq_getElem hc)
      rw [List.getD_eq_getElem?_getD, List.getElem?_eq_getElem hc]
      simp only [Option.getD_some]
      omega
    · rw [List.set_eq_of_length_le (by omega), List.getD_eq_getElem?_getD, List.getElem?_eq_none (by omega)]
      simp
  · simp
theorem Bk.fuel : ∀ (f f' : Nat) (s : Bs) (e : Int), Bk.tot s.i < f → Bk.tot s.i < f' → Bk.drop f s e = Bk.drop f' s e := by
  intro f
  induction f with
  | zero => intro f' s e h; omega
  | succ f ih =>
    intro f' s e h h'
    obtain ⟨f', rfl⟩ : ∃ g, f' = g + 1 := ⟨f' - 1, by omega⟩
    rw [Bk.drop_alone, Bk.drop_alone]
    have ht := Bk.alone_tot s e
    cases hM : (Bk.alone s e).2.2 with
    | nil => rfl
    | cons a l =>
      rw [hM, List.length_cons] at ht
      have : Bk.each (fun s e => (Bk.drop f s e).1) (a :: l) (Bk.alone s e).1 = Bk.each (fun s e => (Bk.drop f' s e).1) (a :: l) (Bk.alone s e).1 :=
        Bk.each_congr (n := Bk.tot (Bk.alone s e).1.i) (fun s2 e2 hs => by rw [ih f' s2 e2 (by omega) (by omega)]) (fun s e => Bk.drop_rl f s e) _ _ (Nat.le_refl _)
      rw [this]
/-- All of a row, the first one first. -/
def Bk.drops (f : Nat) (R : List Int) (s : Bs) : Bs := R.foldl (fun s e => (Bk.drop f s e).1) s
theorem Bk.each_lay (d : Bs → Int → Bs) : ∀ (M : List (Int × Int)) (s : Bs), Bk.each d M s = (Bk.lay M).foldl d s := by
  intro M
  induction M with
  | nil => intro s; rfl
  | cons a M ih =>
    intro s
    simp only [Bk.each]
    rw [ih]
    by_cases h : 0 ≤ a.2
    · rw [if_pos h]; simp [Bk.lay, h]
    · rw [if_neg h]; simp [Bk.lay, h]
theorem Bk.drops_step (f : Nat) (e : Int) (R : List Int) (s : Bs) (hf : Bk.tot s.i < f) : Bk.drops f (e :: R) s = Bk.drops f (Bk.lay (Bk.alone s e).2.2 ++ R) (Bk.alone s e).1 := by
  unfold Bk.drops
  rw [List.foldl_append, List.foldl_cons]
  congr 1
  obtain ⟨g, rfl⟩ : ∃ g, f = g + 1 := ⟨f - 1, by omega⟩
  rw [Bk.drop_alone, ← Bk.each_lay]
  simp only
  have ht := Bk.alone_tot s e
  cases hM : (Bk.alone s e).2.2 with
  | nil => rfl
  | cons a l =>
    rw [hM, List.length_cons] at ht
    exact Bk.each_congr (n := Bk.tot (Bk.alone s e).1.i) (fun s2 e2 hs => by rw [Bk.fuel g (g + 1) s2 e2 (by omega) (by omega)]) (fun s e => Bk.drop_rl g s e) _ _ (Nat.le_refl _)
theorem Bk.lay_rev (M : List (Int × Int)) : (Bk.lay M.reverse).reverse = Bk.lay M := by simp [Bk.lay]
theorem Ld.gon_rl (s : Bs) (e : Int) : Rl s { s with e := Ld.gon s.e e } := by
  unfold Ld.gon
  rcases Ld.cs s.e e with ⟨k, x, rfl, hx, hk, h1, h2⟩ | ⟨h1, h2, -⟩
  · rw [h1, h2, Int.toNat_natCast]
    exact Rl.sete hx rfl rfl
  · rw [h1]; exact Rl.refl s
theorem Bk.alone_rl (s : Bs) (e : Int) : Rl s (Bk.alone s e).1 := by
  unfold Bk.alone
  split
  · exact Rl.trans (Ld.gon_rl s e) (Rl.seti (s := { s with e := Ld.gon s.e e }) (Ld.at s.e e).c.toNat (s.g.set (Ld.at s.e e).c.toNat true) (by simp))
  · exact Ld.gon_rl s e
/-- How many send, when one end is another. -/
theorem Bk.send_set : ∀ {E : List En} {k : Nat} {x : En} (_ : E[k]? = some x) (y : En) (c : Int), Bk.send (E.set k y) c + (if Bk.cnt c x then 1 else 0) = Bk.send E c + (if Bk.cnt c y then 1 else 0) := by
  intro E
  induction E with
  | nil => intro k x h; simp at h
  | cons a E ih =>
    intro k x h y c
    cases k with
    | zero =>
      simp at h; subst h
      unfold Bk.send
      simp only [List.set_cons_zero, List.filter_cons]
      by_cases h1 : Bk.cnt c a <;> by_cases h2 : Bk.cnt c y <;> simp [h1, h2]
    | succ k =>
      have := ih (k := k) (by simpa using h) y c
      unfold Bk.send at *
      simp only [List.set_cons_succ, List.filter_cons]
      by_cases h1 : Bk.cnt c a <;> simp only [h1, if_true, if_false, List.length_cons, Bool.false_eq_true] <;> omega
theorem SN.gon_no {E : List En} {N : List Int} (h : SN E N) (e : Int) (hn : Bk.there E e true = false) : SN (Ld.gon E e) N := by
  intro k hk
  rw [h k hk]
  unfold Ld.gon
  rcases Ld.cs E e with ⟨j, x, rfl, hx, hj, h1, h2⟩ | ⟨h1, h2, -⟩
  · rw [h1, h2, Int.toNat_natCast, if_pos rfl]
    have := Bk.send_set hx { x with h := -2, d := wp1 x.d } (k : Int)
    have c1 : Bk.cnt (k : Int) { x with h := -2, d := wp1 x.d } = false := by simp [Bk.cnt]
    have c2 : Bk.cnt (k : Int) x = false := by
      unfold Bk.there at hn
      rw [h1, h2] at hn
      unfold Bk.cnt
      simp only [Bool.true_and, Bool.and_eq_false_iff] at hn
      rcases hn with hn | hn
      · have : x.s = false := by cases hs : x.s <;> simp_all
        simp [this]
      · rw [hn]; simp
    rw [c1, c2] at this
    simp at this
    rw [this]
  · rw [h1]; rfl
theorem SN.gon_yes {E : List En} {N : List Int} (h : SN E N) (e : Int) (ht : Bk.there E e true = true) {c : Nat} (hc : (Ld.at E e).c = (c : Int)) : 0 < Bk.send E (c : Int) ∧ SN (Ld.gon E e) (N.set c ((Bk.send E (c : Int) : Int) - 1)) := by
  obtain ⟨k, x, rfl, hx, ha, hs, hh, hk⟩ := Bk.there_some ht
  have hhas : Ld.has E (k : Int) = true := by
    unfold Bk.there at ht
    cases hh' : Ld.has E (k : Int) with
    | true => rfl
    | false => rw [hh'] at ht; cases ht
  rw [ha] at hc
  have key : ∀ j : Nat, Bk.send (Ld.gon E (k : Int)) (j : Int) + (if j = c then 1 else 0) = Bk.send E (j : Int) := fun j => by
    unfold Ld.gon
    rw [hhas, ha, Int.toNat_natCast, if_pos rfl]
    have := Bk.send_set hx { x with h := -2, d := wp1 x.d } (j : Int)
    have c1 : Bk.cnt (j : Int) { x with h := -2, d := wp1 x.d } = false := by simp [Bk.cnt]
    have c2 : Bk.cnt (j : Int) x = decide (j = c) := by
      unfold Bk.cnt
      rw [hs, hc, beq_eq_false_iff_ne.2 hh]
      by_cases e : j = c
      · subst e; simp
      · rw [decide_eq_false e]; simp; omega
    rw [c1, c2] at this
    simpa using this
  refine ⟨?_, fun j hj => ?_⟩
  · have := key c
    rw [if_pos rfl] at this
    omega
  · rw [List.length_set] at hj
    have := key j
    by_cases e : j = c
    · subst e
      rw [List.getElem?_set_self hj]
      rw [if_pos rfl] at this
      congr 1
      omega
    · rw [List.getElem?_set_ne (fun e' => e e'.symm), h j hj]
      rw [if_neg e] at this
      congr 1
      omega
end Go.Proofs.Ytbepaimbbclejaa
/- Package chans: one end is dropped alone. -/
namespace Go.Proofs.Ytbepaimbbclejaa
open Go.RowKit

set_option maxRecDepth 100000
set_option maxHeartbeats 1000000
/-- What a drop keeps: all that is not the store's; what is the store's was so. -/
structure DK (w w' : World) (o o' : List (Option Nat)) : Prop where
  k : Kx (fun b => ∀ j : Nat, o[j]? ≠ some (some b)) w w'
  n : ∀ (j b : Nat), o'[j]? = some (some b) → ∃ i : Nat, o[i]? = some (some b)
theorem DK.refl (w : World) (o : List (Option Nat)) : DK w w o o := ⟨Kx.refl _ _, fun j _ h => ⟨j, h⟩⟩
theorem DK.trans {w w1 w2 : World} {o o1 o2 : List (Option Nat)} (h : DK w w1 o o1) (h' : DK w1 w2 o1 o2) : DK w w2 o o2 :=
  ⟨h.k.step h'.k (fun b _ hb j hj => by obtain ⟨i, hi⟩ := h.n j b hj; exact hb i hi), fun j b hj => by obtain ⟨i, hi⟩ := h'.n j b hj; exact h.n i b hi⟩
theorem DK.of_below {w w' : World} (h : Below w.heap.size w w') (o : List (Option Nat)) : DK w w' o o := ⟨Kx.of_below h, fun j _ h => ⟨j, h⟩⟩
theorem DK.bc {w w' : World} {o o' : List (Option Nat)} (h : DK w w' o o') : BC w w' o o' := ⟨h.k, fun j b hj => .inl (h.n j b hj)⟩
section
variable {B : Nat} {w w' : World} {q pl : Nat} {ve vc : Value} {P : List Pl} {E : List En} {S N : List Int} {I : List (List (Int × Int))} {G : List Bool}
theorem ST.ledk (h : ST B w q pl ve vc P E S N I G) {E' : List En} (hl : LG B w' pl ve E') (hc : LC w w' pl ve ve) : ST B w' q pl ve vc P E' S N I G ∧ DK w w' (sob q pl ve vc P) (sob q pl ve vc P) :=
  ⟨(h.led hl hc).1, (h.led hl hc).2.k, fun j _ h => ⟨j, h⟩⟩
theorem ST.chank (h : ST B w q pl ve vc P E S N I G) {k : Nat} {p : Pl} {s : Int} (hp : P[k]? = some p) (hs : S[k]? = some s) (hk : Kx (fun b => b ≠ p.1 ∧ b ≠ p.2.1) w w') {n' : Int} {M' : List (Int × Int)} {g' : Bool} (hc : CH B w' (p.1, p.2.1, .slice none 0 0) s n' M' g') :
    ST B w' q pl ve vc (P.set k (p.1, p.2.1, .slice none 0 0)) E S (N.set k n') (I.set k M') (G.set k g') ∧ DK w w' (sob q pl ve vc P) (sob q pl ve vc (P.set k (p.1, p.2.1, .slice none 0 0))) := by
  have h1 := h.chan hp hs (hk.mono (fun b _ hb => ⟨hb.1, hb.2.1⟩)) hc (.inl rfl)
  refine ⟨h1.1, h1.2.k, fun j b hj => ?_⟩
  have eqo : (sob q pl ve vc P).set (4 + (3 * k + 2)) none = sob q pl ve vc (P.set k (p.1, p.2.1, .slice none 0 0)) := by
    rw [Nat.add_comm]
    show some q :: some pl :: ve.ownBlock :: vc.ownBlock :: (cob P).set (3 * k + 2) none = _
    have := cob_set P k p (.slice none 0 0) hp
    show _ = some q :: some pl :: ve.ownBlock :: vc.ownBlock :: cob (P.set k (p.1, p.2.1, .slice none 0 0))
    rw [this]
    rfl
  rcases set_or (l := sob q pl ve vc P) (k := 4 + (3 * k + 2)) (eqo ▸ hj) with h2 | h2
  · exact ⟨j, h2⟩
  · cases h2
theorem dAlone_any (h : ST B w q pl ve vc P E S N I G) (o : BOk E S I G) (hN : SN E N) (hM : ∀ M ∈ I, M.length ≤ 1000) (e : Int) (A : Bs × Bool × List (Int × Int)) (hA : Bk.alone ⟨E, I, G⟩ e = A) :
    Calls Try.prog 53 #[.pointer (some ⟨q, 0, none⟩), .int .i64 e] w fun r w' => ∃ v P' N', r = .returned (.tuple #[.bool A.2.1, v]) ∧ w'.ownsRow w.heap.size 3 1 v (Bk.lay A.2.2.reverse).length (ints (Bk.lay A.2.2.reverse)) ∧ ST B w' q pl ve vc P' A.1.e S N' A.1.i A.1.g ∧ SN A.1.e N' ∧ DK w w' (sob q pl ve vc P) (sob q pl ve vc P') := by
  have HG : Hid (∀ X, LG B X pl ve E → Calls Try.prog 58 #[.pointer (some ⟨pl, 0, none⟩), .int .i64 e] X fun r w' => r = .returned (.bool (Ld.has E e && !((Ld.at E e).h == -2))) ∧ LG B w' pl ve (Ld.gon E e) ∧ LC X w' pl ve ve) := hide (fun X hX => gone_wp hX e)
  unfold Bk.alone at hA
  simp only at hA
  cases h1 : Bk.there E e true with
  | true =>
    have h2 : Bk.there E e false = false := by
      obtain ⟨k, x, -, -, ha, hs, -, -⟩ := Bk.there_some h1
      unfold Bk.there
      rw [ha, hs]
      simp
    have hwas : (Ld.has E e && !((Ld.at E e).h == -2)) = true := by
      unfold Bk.there at h1
      cases hh : Ld.has E e with
      | false => rw [hh] at h1; cases h1
      | true => rw [hh] at h1; simp only [Bool.true_and, Bool.and_eq_true] at h1 ⊢; exact h1.2
    rw [hwas] at HG
    rw [h2, if_neg (by decide), hwas] at hA
    subst hA
    obtain ⟨c, p, sl, M, g, hc, hp, hS, hn, hI, hG, hch, -⟩ := h.of o hN h1
    obtain ⟨hpos, hsn⟩ := hN.gon_yes e h1 hc
    have HS := hide (sendTo_yes h e h1 hc hp)
    have HR : Hid (∀ X, Below w.heap.size w X → Calls Try.prog 23 #[.pointer (some ⟨q, 0, none⟩), .int .i64 e] X fun r w' => r = .returned (.pointer none) ∧ Below X.heap.size X w') := hide (fun X hX => recvFr_no (h.keep hX) e h2)
    have hle := o.le
    have hsl : Bk.send E (c : Int) ≤ 100000 := Nat.le_trans (Bk.send_le _ _) hle
    obtain ⟨n, hnn⟩ : ∃ n, Bk.send E (c : Int) = n := ⟨_, rfl⟩
    rw [hnn] at hch hsl hn hsn hpos
    have HH := hide (And.intro h (And.intro hp (And.intro hS (And.intro hI (And.intro hG hch)))))
    have HSN := hide hsn
    clear h o hN hM h1 h2 hwas hp hS hn hI hG hch hsn hc hnn hle
    go_enter Try.func53, Try.ntmps53
    go_wp2_with fail
    refine HS.out.mono ?_
    rintro e w1 ⟨rfl, hb⟩
    have HB := hide hb
    clear hb
    go_wp2_with fail
    refine (HR.out _ HB.out).mono ?_
    rintro e w2 ⟨rfl, hb⟩
    have HB2 := hide (btrans HB.out hb)
    have q0 := (HH.out.1.keep HB2.out).c0
    clear hb HB
    go_wp2_with fail
    refine (HG.out _ (HH.out.1.keep HB2.out).lg).mono ?_
    rintro e w3 ⟨rfl, hlg, hlc⟩
    have HL := hide ((HH.out.1.keep HB2.out).ledk hlg hlc)
    have HD := hide ((DK.of_below HB2.out _).trans HL.out.2)
    obtain ⟨-, hp, hS, hI, hG, hch⟩ := HH.out
    have hch3 : CH B w3 p sl (n : Int) M g := by
      obtain ⟨s', n', M', g', e1, e2, e3, e4, hx⟩ := HL.out.1.all hp
      have hn2 : N[c]? = some n' := e2
      rw [hS] at e1; rw [hI] at e3; rw [hG] at e4
      cases e1; cases e3; cases e4
      obtain ⟨e1', e2', e3'⟩ := sob_at (q := q) (pl := pl) (ve := ve) (vc := vc) hp
      have hdj := HH.out.1.dj
      exact (hch.keep (X := fun _ => True) (Kx.of_below HB2.out) trivial trivial (fun _ _ => trivial)).keep hlc.k ⟨fun e => absurd (hdj _ 1 p.1 e1' (by rw [e]; rfl)) (by omega), fun e => absurd (hdj _ 2 p.1 e1' (by show some ve.ownBlock = _; rw [← e])) (by omega)⟩ ⟨fun e => absurd (hdj _ 1 p.2.1 e2' (by rw [e]; rfl)) (by omega), fun e => absurd (hdj _ 2 p.2.1 e2' (by show some ve.ownBlock = _; rw [← e])) (by omega)⟩ (fun b hb => ⟨fun e => absurd (hdj _ 1 b (by rw [e3', hb]) (by rw [e]; rfl)) (by omega), fun e => absurd (hdj _ 2 b (by rw [e3', hb]) (by show some ve.ownBlock = _; rw [← e])) (by omega)⟩)
    have HX := hide (HL.out.1.sender hp hS hI hG hch3 ((n : Int) - 1))
    have k1 := hch3.c1
    have k2 := hch3.t 1
    clear hp hS hI hG hch hch3 hlg hlc q0
    go_wp2
    go_ret2
    refine ⟨_, P, _, rfl, World.ownsRow_nil _ _ _ _, HX.out.1, HSN.out, HD.out.trans ⟨HX.out.2.k, fun j _ h => ⟨j, h⟩⟩⟩
  | false =>
    have HS := hide (sendTo_no h e h1)
    cases h2 : Bk.there E e false with
    | false =>
      rw [h2, if_neg (by decide)] at hA
      subst hA
      have hsn := hN.gon_no e h1
      have HR : Hid (∀ X, Below w.heap.size w X → Calls Try.prog 23 #[.pointer (some ⟨q, 0, none⟩), .int .i64 e] X fun r w' => r = .returned (.pointer none) ∧ Below X.heap.size X w') := hide (fun X hX => recvFr_no (h.keep hX) e h2)
      have HH := hide h
      have HSN := hide hsn
      generalize (Ld.has E e && !((Ld.at E e).h == -2)) = b at *
      clear h o hN hM h1 h2 hsn
      go_enter Try.func53, Try.ntmps53
      go_wp2_with fail
      refine HS.out.mono ?_
      rintro e w1 ⟨rfl, hb⟩
      have HB := hide hb
      clear hb
      go_wp2_with fail
      refine (HR.out _ HB.out).mono ?_
      rintro e w2 ⟨rfl, hb⟩
      have HB2 := hide (btrans HB.out hb)
      have q0 := (HH.out.keep HB2.out).c0
      clear hb HB
      go_wp2_with fail
      refine (HG.out _ (HH.out.keep HB2.out).lg).mono ?_
      rintro e w3 ⟨rfl, hlg, hlc⟩
      have HL := hide ((HH.out.keep HB2.out).ledk hlg hlc)
      clear hlg hlc q0
      go_wp2
      go_ret2
      exact ⟨_, P, N, rfl, World.ownsRow_nil _ _ _ _, HL.out.1, HSN.out, (DK.of_below HB2.out _).trans HL.out.2⟩
    | true =>
      have hwas : (Ld.has E e && !((Ld.at E e).h == -2)) = true := by
        unfold Bk.there at h2
        cases hh : Ld.has E e with
        | false => rw [hh] at h2; cases h2
        | true => rw [hh] at h2; simp only [Bool.true_and, Bool.and_eq_true] at h2 ⊢; exact h2.2
      rw [hwas] at HG
      obtain ⟨c, p, sl, M, g, hc, hp, hS, hn, hI, hG, hch, -⟩ := h.of o hN h2
      rw [h2, if_pos rfl, hc, Int.toNat_natCast, List.getD_eq_getElem?_getD, hI] at hA
      subst hA
      simp only [Option.getD_some]
      have hM1 : M.length ≤ 1000 := hM M (List.mem_of_getElem? hI)
      have hsn := hN.gon_no e h1
      have HR : Hid (∀ X, Below w.heap.size w X → Calls Try.prog 23 #[.pointer (some ⟨q, 0, none⟩), .int .i64 e] X fun r w' => r = .returned (.pointer (some ⟨p.1, 0, none⟩)) ∧ Below X.heap.size X w') := hide (fun X hX => recvFr_yes (h.keep hX) e h2 hc hp)
      have HSN : Hid (SN (Ld.gon E e) (N.set c (Bk.send E (c : Int) : Int))) := hide (by
        have : N.set c (Bk.send E (c : Int) : Int) = N := by
          refine List.ext_getElem? (fun i => ?_)
          by_cases e' : c = i
          · subst e'; rw [List.getElem?_set_self (List.getElem?_eq_some_iff.1 hn).1, hn]
          · rw [List.getElem?_set_ne e']
        rw [this]; exact hsn)
      have HH := hide (And.intro h (And.intro hp (And.intro hS hch)))
      clear h o hN hM h1 h2 hwas hp hS hn hI hG hch hsn hc
      go_enter Try.func53, Try.ntmps53
      go_wp2_with fail
      refine HS.out.mono ?_
      rintro e w1 ⟨rfl, hb⟩
      have HB := hide hb
      clear hb
      go_wp2_with fail
      refine (HR.out _ HB.out).mono ?_
      rintro e w2 ⟨rfl, hb⟩
      have HB2 := hide (btrans HB.out hb)
      have q0 := (HH.out.1.keep HB2.out).c0
      clear hb HB
      go_wp2_with fail
      refine (HG.out _ (HH.out.1.keep HB2.out).lg).mono ?_
      rintro e w3 ⟨rfl, hlg, hlc⟩
      have HL := hide ((HH.out.1.keep HB2.out).ledk hlg hlc)
      have HD := hide ((DK.of_below HB2.out _).trans HL.out.2)
      obtain ⟨-, hp, hS, hch⟩ := HH.out
      obtain ⟨e1', e2', e3'⟩ := sob_at (q := q) (pl := pl) (ve := ve) (vc := vc) hp
      have hdj := HH.out.1.dj
      have hch3 := (hch.keep (X := fun _ => True) (Kx.of_below HB2.out) trivial trivial (fun _ _ => trivial)).keep hlc.k ⟨fun e => absurd (hdj _ 1 p.1 e1' (by rw [e]; rfl)) (by omega), fun e => absurd (hdj _ 2 p.1 e1' (by show some ve.ownBlock = _; rw [← e])) (by omega)⟩ ⟨fun e => absurd (hdj _ 1 p.2.1 e2' (by rw [e]; rfl)) (by omega), fun e => absurd (hdj _ 2 p.2.1 e2' (by show some ve.ownBlock = _; rw [← e])) (by omega)⟩ (fun b hb => ⟨fun e => absurd (hdj _ 1 b (by rw [e3', hb]) (by rw [e]; rfl)) (by omega), fun e => absurd (hdj _ 2 b (by rw [e3', hb]) (by show some ve.ownBlock = _; rw [← e])) (by omega)⟩)
      have HC := hide (chEnd_any hch3 hM1 (fun e => absurd (hdj _ _ p.1 e1' (by rw [e]; exact e2')) (by omega)) (fun e => absurd (hdj _ _ p.1 e1' (by rw [e3', e])) (by omega)))
      have HPS := hide (And.intro hp hS)
      have hws : w.heap.size ≤ w3.heap.size := HD.out.k.size
      clear hp hS hch hch3 hlg hlc q0 hdj e1' e2' e3'
      go_wp2_with fail
      refine HC.out.mono ?_
      rintro e w4 ⟨v, rfl, ho, hc4, hk4⟩
      have HX := hide (HL.out.1.chank HPS.out.1 HPS.out.2 hk4 hc4)
      have HO : Hid (w4.ownsRow w.heap.size 3 1 v (Bk.lay M.reverse).length (ints (Bk.lay M.reverse))) := hide ⟨ho.1, by
        rcases ho.2 with h0 | ⟨g, cap, cur, hv, hb, rest⟩
        · exact .inl h0
        · exact .inr ⟨g, cap, cur, hv, by omega, rest⟩⟩
      clear ho hc4 hk4
      go_wp2
      go_ret2
      exact ⟨_, _, _, rfl, HO.out, HX.out.1, HSN.out, HD.out.trans HX.out.2⟩
end
end Go.Proofs.Ytbepaimbbclejaa
/- Package chans: Drop. -/
namespace Go.Proofs.Ytbepaimbbclejaa
open Go.RowKit

theorem wpList_append_none {P : Program} {w : World} {ops : Array Oper} {rest : List Oper} {o : Oper} {a : Act} {Q : Exit → Act → World → Prop} (hgd : o.guard = none) (s x : Operand) (t : TypeId)
    (ho : o.op = .call { callee := .builtin .append, args := #[s, x], argTypes := #[t, t] }) (base : Nat) (e : TypeId) (i : TypeInfo) (size : Nat) (ht : P.underlying t = some (.slice e)) (hi : P.info? e = some i)
    (v : Value) (n : Nat) (xs : List Value) (hs : a.eval s = v) (hown : w.ownsRow base e size v n xs) (a0 : Option Addr) (c0 : Nat) (hx : a.eval x = .slice a0 0 c0) (h : wpList P ops Q rest (a.put o.dst v) w) : wpList P ops Q (o :: rest) a w :=
  wpList_plain hgd fun _ hK => by
    have hr : (Builtin.append_ #[t, t] o.type #[v, .slice a0 0 c0]).run P w = .ok v w := by
      have hsrc : Src P i.size t (.slice a0 0 c0) 0 [] w := by
        cases a0 with
        | none => exact Src.ofNil w ht c0
        | some ad => exact Src.ofSlice w ht ad 0 c0 [] (by simp) (fun j u hu => by simp at hu) (fun u hu => by simp at hu)
      rcases hown.2 with ⟨rfl, rfl⟩ | ⟨g, cap, cur, rfl, _, _, hnc, _⟩
      · exact run_append_nothing w t t o.type e i ht hi _ _ _ (Nat.le_refl _) _ hsrc
      · exact run_append_nothing w t t o.type e i ht hi _ _ _ hnc _ hsrc
    unfold Oper.wp execOp
    simp only [ho, resolve, invoke, builtin, Sem.run_bind, Sem.run_pure, Result.andThen_ok, List.map_toArray, List.map_cons, List.map_nil, hs, hx, hr]
    exact hK _ _ h
theorem own_less {w : World} {B g n cap : Nat} {L : List Int} {x : Int} (h : w.ownsRow B 3 1 (.slice (some ⟨g, 0, none⟩) (n + 1) cap) (n + 1) (ints (L ++ [x]))) (hn : L.length = n) : w.ownsRow B 3 1 (.slice (some ⟨g, 0, none⟩) n cap) n (ints L) := by
  refine ⟨by rw [ints_len]; omega, .inr ?_⟩
  rcases h.2 with ⟨h0, -⟩ | ⟨g', cap', cur, hv, hb, hg, h1, h2, h3, h4⟩
  · cases h0
  · simp only [Value.slice.injEq, Option.some.injEq, Addr.mk.injEq] at hv
    obtain ⟨⟨rfl, -, -⟩, -, rfl⟩ := hv
    refine ⟨g, cap, cur, rfl, hb, hg, by omega, h2, h3, ?_⟩
    have : (cur.toList.take ((n + 1) * 1)).take (n * 1) = (ints (L ++ [x])).take (n * 1) := by rw [h4]
    rw [List.take_take, Nat.min_eq_left (by omega)] at this
    rw [this, ints_app, List.take_append_of_le_length (by rw [ints_len]; omega), List.take_of_length_le (by rw [ints_len]; omega)]
theorem Bk.mem_tot {I : List (List (Int × Int))} {M : List (Int × Int)} (h : M ∈ I) : M.length ≤ Bk.tot I := by
  induction I with
  | nil => cases h
  | cons a I ih =>
    simp only [Bk.tot, List.map_cons, List.sum_cons] at *
    rcases List.mem_cons.1 h with rfl | h
    · omega
    · have := ih h; omega
theorem Bk.alone_no {s : Bs} {e : Int} (h : (Bk.alone s e).2.1 = false) : (Bk.alone s e).2.2 = [] := by
  unfold Bk.alone at *
  split at h
  · cases h
  · rename_i hn; rw [if_neg hn]
/-- A drop under way: what is left to drop, what went. -/
structure DW (B : Nat) (w : World) (q pl : Nat) (ve vc : Value) (P : List Pl) (S : List Int) (f : Nat) (s0 : Bs) (e : Int) (wr : World) (lv gv : Value) (R W : List Int) (s : Bs) (P' : List Pl) (N' : List Int) : Prop where
  st : ST B wr q pl ve vc P' s.e S N' s.i s.g
  ok : BOk s.e S s.i s.g
  sn : SN s.e N'
  fin : Bk.drops f R s = (Bk.drop f s0 e).1
  cnd : (0 < W.length ∧ (Bk.drop f s0 e).2 = true) ∨ (W = [] ∧ R = [e] ∧ s = s0) ∨ (W = [] ∧ R = [] ∧ (Bk.drop f s0 e).2 = false)
  lw : wr.ownsRow w.heap.size 3 1 lv R.length (ints R.reverse)
  gw : wr.ownsRow w.heap.size 3 1 gv W.length (ints W)
  ne : ∀ b, lv.ownBlock = some b → gv.ownBlock ≠ some b
  dk : DK w wr (sob q pl ve vc P) (sob q pl ve vc P')
  len : W.length + R.length + Bk.tot s.i ≤ 1 + Bk.tot s0.i
  old : ∀ (j b : Nat), (sob q pl ve vc P)[j]? = some (some b) → b < w.heap.size
theorem DW.bc {B : Nat} {w : World} {q pl : Nat} {ve vc : Value} {P : List Pl} {S : List Int} {f : Nat} {s0 : Bs} {e : Int} {wr : World} {lv gv : Value} {R W : List Int} {s : Bs} {P' : List Pl} {N' : List Int} (h : DW B w q pl ve vc P S f s0 e wr lv gv R W s P' N') : ∀ (j b : Nat), (sob q pl ve vc P')[j]? = some (some b) → b < w.heap.size := fun j b hj => by
  obtain ⟨i, hi⟩ := h.dk.n j b hj
  exact h.old i b hi
/-- The next one of a row is dropped. -/
theorem DW.next {B : Nat} {w : World} {q pl : Nat} {ve vc : Value} {P : List Pl} {S : List Int} {f : Nat} {s0 : Bs} {e : Int} {wr : World} {lv gv : Value} {x : Int} {R W : List Int} {s : Bs} {P' : List Pl} {N' : List Int} (h : DW B w q pl ve vc P S f s0 e wr lv gv (x :: R) W s P' N') (hf : Bk.tot s0.i < f) {P2 : List Pl} {N2 : List Int} {w1 w2 : World} (A : Bs × Bool × List (Int × Int)) (hA : Bk.alone s x = A) (hst : ST B w1 q pl ve vc P2 A.1.e S N2 A.1.i A.1.g) (hsn : SN A.1.e N2) (hdk : DK wr w1 (sob q pl ve vc P') (sob q pl ve vc P2)) (hk2 : Kx (fun b => b < w.heap.size) w1 w2) {lv' gv' : Value} {W' : List Int}
    (hW : W' = if A.2.1 then W ++ [x] else W) (hl : w2.ownsRow w.heap.size 3 1 lv' (Bk.lay A.2.2 ++ R).length (ints (Bk.lay A.2.2 ++ R).reverse)) (hg : w2.ownsRow w.heap.size 3 1 gv' W'.length (ints W')) (hne : ∀ b, lv'.ownBlock = some b → gv'.ownBlock ≠ some b) :
    DW B w q pl ve vc P S f s0 e w2 lv' gv' (Bk.lay A.2.2 ++ R) W' A.1 P2 N2 := by
  have hb2 : ∀ (j b : Nat), (sob q pl ve vc P2)[j]? = some (some b) → b < w.heap.size := fun j b hj => by
    obtain ⟨i, hi⟩ := hdk.n j b hj
    exact h.bc i b hi
  have hrl := Bk.alone_rl s x
  have ht := Bk.alone_tot s x
  have hfin := Bk.drops_step f x R s (by have := h.len; simp at this; omega)
  have hno := Bk.alone_no (s := s) (e := x)
  rw [hA] at hrl ht hfin hno
  have hlay := Bk.lay_len A.2.2
  have hlen := h.len
  simp only [List.length_cons] at hlen
  refine ⟨hst.keepX hk2 (fun j b hj => hb2 j b hj), hrl.ok h.ok, hsn, hfin ▸ h.fin, ?_, hl, hg, hne, ⟨(h.dk.trans hdk).k.step (hk2) (fun b hb _ => hb), (h.dk.trans hdk).n⟩, ?_, h.old⟩
  · rcases h.cnd with ⟨h1, h2⟩ | ⟨h1, h2, h3⟩ | ⟨h1, h2, -⟩
    · refine .inl ⟨?_, h2⟩
      rw [hW]; split
      · simp
      · exact h1
    · obtain ⟨rfl, rfl⟩ : x = e ∧ R = [] := by simpa using h2
      subst h3
      obtain ⟨g, rfl⟩ : ∃ g, f = g + 1 := ⟨f - 1, by omega⟩
      have hd := Bk.drop_alone g s x
      rw [hA] at hd
      cases hw : A.2.1 with
      | true =>
        refine .inl ⟨by rw [hW, hw]; simp, by rw [hd, hw]⟩
      | false =>
        refine .inr (.inr ⟨by rw [hW, hw, h1]; rfl, by rw [hno hw]; rfl, by rw [hd, hw]⟩)
    · cases h2
  · rw [List.length_append]
    cases hw : A.2.1 with
    | true =>
      rw [hW, hw, if_pos rfl, List.length_append, List.length_singleton]
      omega
    | false =>
      rw [hW, hw, if_neg (by decide), hno hw]
      rw [hno hw] at ht
      simp at ht ⊢
      simp [Bk.lay]
      omega
end Go.Proofs.Ytbepaimbbclejaa

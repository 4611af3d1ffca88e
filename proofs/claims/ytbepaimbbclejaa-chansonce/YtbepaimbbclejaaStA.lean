import Derived.Test.YtbepaimbbclejaaRjC
import Derived.Test.YtbepaimbbclejaaChC
/- Package chans: a store in memory. -/
namespace Go.Proofs.Ytbepaimbbclejaa
open Go.RowKit

/-- Where a channel lies: itself, its ring, its ring's row. -/
abbrev Pl := Nat × Nat × Value
def cob : List Pl → List (Option Nat)
  | [] => []
  | p :: P => some p.1 :: some p.2.1 :: p.2.2.ownBlock :: cob P
theorem cob_at : ∀ (P : List Pl) (k : Nat) (p : Pl), P[k]? = some p → (cob P)[3 * k]? = some (some p.1) ∧ (cob P)[3 * k + 1]? = some (some p.2.1) ∧ (cob P)[3 * k + 2]? = some p.2.2.ownBlock := by
  intro P
  induction P with
  | nil => intro k p h; simp at h
  | cons a P ih =>
    intro k p h
    cases k with
    | zero => simp at h; subst h; exact ⟨rfl, rfl, rfl⟩
    | succ k =>
      rw [show 3 * (k + 1) = 3 * k + 3 by omega]
      exact ih k p (by simpa using h)
theorem cob_of : ∀ (P : List Pl) (j : Nat) (x : Option Nat), (cob P)[j]? = some x → ∃ k p, P[k]? = some p ∧ ((j = 3 * k ∧ x = some p.1) ∨ (j = 3 * k + 1 ∧ x = some p.2.1) ∨ (j = 3 * k + 2 ∧ x = p.2.2.ownBlock)) := by
  intro P
  induction P with
  | nil => intro j x h; simp [cob] at h
  | cons a P ih =>
    intro j x h
    match j, h with
    | 0, h => exact ⟨0, a, rfl, .inl ⟨rfl, by simpa [cob] using h.symm⟩⟩
    | 1, h => exact ⟨0, a, rfl, .inr (.inl ⟨rfl, by simpa [cob] using h.symm⟩)⟩
    | 2, h => exact ⟨0, a, rfl, .inr (.inr ⟨rfl, by simpa [cob] using h.symm⟩)⟩
    | j + 3, h =>
      obtain ⟨k, p, h1, h2⟩ := ih j x h
      refine ⟨k + 1, p, by simpa using h1, ?_⟩
      rcases h2 with ⟨e, h2⟩ | ⟨e, h2⟩ | ⟨e, h2⟩
      · exact .inl ⟨by omega, h2⟩
      · exact .inr (.inl ⟨by omega, h2⟩)
      · exact .inr (.inr ⟨by omega, h2⟩)
theorem cob_set : ∀ (P : List Pl) (k : Nat) (p : Pl) (v : Value), P[k]? = some p → cob (P.set k (p.1, p.2.1, v)) = (cob P).set (3 * k + 2) v.ownBlock := by
  intro P
  induction P with
  | nil => intro k p v h; simp at h
  | cons a P ih =>
    intro k p v h
    cases k with
    | zero => simp at h; subst h; rfl
    | succ k =>
      have := ih k p v (by simpa using h)
      rw [show 3 * (k + 1) + 2 = 3 * k + 2 + 3 by omega]
      show _ :: _ :: _ :: cob (P.set k _) = _
      rw [this]
      rfl
theorem cob_app : ∀ (P Q : List Pl), cob (P ++ Q) = cob P ++ cob Q := by
  intro P Q
  induction P with
  | nil => rfl
  | cons a P ih => show _ :: _ :: _ :: cob (P ++ Q) = _; rw [ih]; rfl
/-- A channel: its ring, how many send, is it gone. -/
structure CH (B : Nat) (w : World) (p : Pl) (s n : Int) (M : List (Int × Int)) (g : Bool) : Prop where
  c0 : w.cell? ⟨p.1, 0, none⟩ = some (.pointer (some ⟨p.2.1, 0, none⟩))
  c1 : w.cell? ⟨p.1, 1, none⟩ = some (.int .i64 n)
  c2 : w.cell? ⟨p.1, 2, none⟩ = some (.bool g)
  t : ∀ k, w.frozen? ⟨p.1, k, none⟩ = false
  r : RJ w p.2.1 p.2.2 s.toNat M
  s0 : 0 ≤ s
  lo : B ≤ p.1 ∧ B ≤ p.2.1 ∧ ∀ b, p.2.2.ownBlock = some b → B ≤ b
theorem CH.keep {B : Nat} {w w' : World} {p : Pl} {s n : Int} {M : List (Int × Int)} {g : Bool} (h : CH B w p s n M g) {X : Nat → Prop} (hk : Kx X w w') (h1 : X p.1) (h2 : X p.2.1) (h3 : ∀ b, p.2.2.ownBlock = some b → X b) : CH B w' p s n M g :=
  ⟨hk.cell h.c0 h1, hk.cell h.c1 h1, hk.cell h.c2 h1, fun k => (hk.frozen (p := ⟨p.1, k, none⟩) (World.block_lt_of_cell? _ ⟨p.1, 0, none⟩ h.c0) h1).trans (h.t k), h.r.keep hk h2 h3, h.s0, h.lo⟩
def sob (q pl : Nat) (ve vc : Value) (P : List Pl) : List (Option Nat) := some q :: some pl :: ve.ownBlock :: vc.ownBlock :: cob P
def pcl (P : List Pl) : List Value := P.map fun p => .pointer (some ⟨p.1, 0, none⟩)
/-- A store at q: its ledger, its channels. -/
structure ST (B : Nat) (w : World) (q pl : Nat) (ve vc : Value) (P : List Pl) (E : List En) (S N : List Int) (I : List (List (Int × Int))) (G : List Bool) : Prop where
  c0 : w.cell? ⟨q, 0, none⟩ = some (.pointer (some ⟨pl, 0, none⟩))
  c1 : w.cell? ⟨q, 1, none⟩ = some vc
  t : ∀ k, w.frozen? ⟨q, k, none⟩ = false
  lo : B ≤ q
  lg : LG B w pl ve E
  oc : w.ownsRow B 63 1 vc P.length (pcl P)
  ln : S.length = P.length ∧ N.length = P.length ∧ I.length = P.length ∧ G.length = P.length
  ch : ∀ (k : Nat) p s n M g, P[k]? = some p → S[k]? = some s → N[k]? = some n → I[k]? = some M → G[k]? = some g → CH B w p s n M g
  dj : Dj (sob q pl ve vc P)
/-- All of it but what stands at some places. -/
structure STf (D : Nat → Prop) (B : Nat) (w : World) (q pl : Nat) (ve vc : Value) (P : List Pl) (E : List En) (S N : List Int) (I : List (List (Int × Int))) (G : List Bool) : Prop where
  c0 : ¬ D 0 → w.cell? ⟨q, 0, none⟩ = some (.pointer (some ⟨pl, 0, none⟩))
  c1 : ¬ D 0 → w.cell? ⟨q, 1, none⟩ = some vc
  t : ¬ D 0 → ∀ k, w.frozen? ⟨q, k, none⟩ = false
  lg : ¬ D 1 → ¬ D 2 → LG B w pl ve E
  oc : ¬ D 3 → w.ownsRow B 63 1 vc P.length (pcl P)
  ch : ∀ (k : Nat) p s n M g, ¬ D (4 + 3 * k) → ¬ D (4 + (3 * k + 1)) → ¬ D (4 + (3 * k + 2)) → P[k]? = some p → S[k]? = some s → N[k]? = some n → I[k]? = some M → G[k]? = some g → CH B w p s n M g
section
variable {B : Nat} {w w' w1 : World} {q pl : Nat} {ve vc : Value} {P : List Pl} {E : List En} {S N : List Int} {I : List (List (Int × Int))} {G : List Bool}
theorem sob_at {k : Nat} {p : Pl} (hp : P[k]? = some p) : (sob q pl ve vc P)[4 + 3 * k]? = some (some p.1) ∧ (sob q pl ve vc P)[4 + (3 * k + 1)]? = some (some p.2.1) ∧ (sob q pl ve vc P)[4 + (3 * k + 2)]? = some p.2.2.ownBlock := by
  obtain ⟨h1, h2, h3⟩ := cob_at P k p hp
  refine ⟨?_, ?_, ?_⟩
  · rw [Nat.add_comm]; exact h1
  · rw [Nat.add_comm 4]; exact h2
  · rw [Nat.add_comm 4]; exact h3
theorem ST.all (h : ST B w q pl ve vc P E S N I G) {k : Nat} {p : Pl} (hp : P[k]? = some p) : ∃ s n M g, S[k]? = some s ∧ N[k]? = some n ∧ I[k]? = some M ∧ G[k]? = some g ∧ CH B w p s n M g := by
  have hk := (List.getElem?_eq_some_iff.1 hp).1
  obtain ⟨l1, l2, l3, l4⟩ := h.ln
  have e1 := List.getElem?_eq_getElem (l := S) (i := k) (by omega)
  have e2 := List.getElem?_eq_getElem (l := N) (i := k) (by omega)
  have e3 := List.getElem?_eq_getElem (l := I) (i := k) (by omega)
  have e4 := List.getElem?_eq_getElem (l := G) (i := k) (by omega)
  exact ⟨_, _, _, _, e1, e2, e3, e4, h.ch k p _ _ _ _ hp e1 e2 e3 e4⟩
theorem ST.ql (h : ST B w q pl ve vc P E S N I G) : q < w.heap.size := World.block_lt_of_cell? _ _ h.c0
theorem ST.bnd (h : ST B w q pl ve vc P E S N I G) {j b : Nat} (hj : (sob q pl ve vc P)[j]? = some (some b)) : B ≤ b ∧ b < w.heap.size := by
  match j, hj with
  | 0, hj => cases hj; exact ⟨h.lo, h.ql⟩
  | 1, hj => cases hj; exact ⟨h.lg.lo, h.lg.plt⟩
  | 2, hj => exact h.lg.o.lt b (by injection hj)
  | 3, hj => exact h.oc.lt b (by injection hj)
  | j + 4, hj =>
    have hj' : (cob P)[j]? = some (some b) := hj
    obtain ⟨k, p, hp, hx⟩ := cob_of P j _ hj'
    obtain ⟨s, n, M, g, -, -, -, -, hc⟩ := h.all hp
    rcases hx with ⟨-, e⟩ | ⟨-, e⟩ | ⟨-, e⟩
    · cases e; exact ⟨hc.lo.1, World.block_lt_of_cell? _ _ hc.c0⟩
    · cases e; exact ⟨hc.lo.2.1, hc.r.lt.1⟩
    · exact ⟨hc.lo.2.2 b e.symm, (hc.r.lt.2 b e.symm).1⟩
theorem ST.new (h : ST B w q pl ve vc P E S N I G) {b : Nat} (hb : w.heap.size ≤ b) : ∀ j : Nat, (sob q pl ve vc P)[j]? ≠ some (some b) := fun j hj => by have := (h.bnd hj).2; omega
theorem ST.keepf (D : Nat → Prop) (h : ST B w q pl ve vc P E S N I G) {X : Nat → Prop} (hk : Kx X w w') (hX : ∀ (j b : Nat), ¬ D j → (sob q pl ve vc P)[j]? = some (some b) → X b) : STf D B w' q pl ve vc P E S N I G := by
  refine ⟨fun d => hk.cell h.c0 (hX 0 q d rfl), fun d => hk.cell h.c1 (hX 0 q d rfl), fun d k => (hk.frozen (p := ⟨q, k, none⟩) h.ql (hX 0 q d rfl)).trans (h.t k), fun d1 d2 => h.lg.keepX hk (hX 1 pl d1 rfl) (fun g hg => hX 2 g d2 (by show some ve.ownBlock = _; rw [hg])), fun d => own_keepe h.oc (fun g hg => hk.block g (h.oc.lt g hg).2 (hX 3 g d (by show some vc.ownBlock = _; rw [hg]))), fun k p s n M g d1 d2 d3 hp h1 h2 h3 h4 => ?_⟩
  obtain ⟨e1, e2, e3⟩ := sob_at (q := q) (pl := pl) (ve := ve) (vc := vc) hp
  exact (h.ch k p s n M g hp h1 h2 h3 h4).keep hk (hX _ _ d1 e1) (hX _ _ d2 e2) (fun b hb => hX _ _ d3 (by rw [e3, hb]))
theorem ST.keepX (h : ST B w q pl ve vc P E S N I G) {X : Nat → Prop} (hk : Kx X w w') (hX : ∀ (j b : Nat), (sob q pl ve vc P)[j]? = some (some b) → X b) : ST B w' q pl ve vc P E S N I G := by
  have f := h.keepf (fun _ => False) hk (fun j b _ hj => hX j b hj)
  exact ⟨f.c0 id, f.c1 id, f.t id, h.lo, f.lg id id, f.oc id, h.ln, fun k p s n M g => f.ch k p s n M g id id id, h.dj⟩
theorem ST.keep (h : ST B w q pl ve vc P E S N I G) (hb : Below w.heap.size w w') : ST B w' q pl ve vc P E S N I G := h.keepX (X := fun _ => True) (Kx.of_below hb) (fun _ _ _ => trivial)
/-- The ledger was changed. -/
theorem ST.led (h : ST B w q pl ve vc P E S N I G) {ve' : Value} {E' : List En} (hl : LG B w' pl ve' E') (hc : LC w w' pl ve ve') : ST B w' q pl ve' vc P E' S N I G ∧ BC w w' (sob q pl ve vc P) (sob q pl ve' vc P) := by
  have f := h.keepf (fun j => j = 1 ∨ j = 2) hc.k (fun j b hd hj => ⟨fun e => hd (.inl (h.dj j 1 b hj (by rw [e]; rfl))), fun e => hd (.inr (h.dj j 2 b hj (show some ve.ownBlock = _ by rw [← e])))⟩)
  have dj' : Dj (sob q pl ve' vc P) := h.dj.set 2 ve'.ownBlock (hc.n.elim (fun e => .inr (.inl (by rw [e]; rfl))) (fun ⟨b, e, hb⟩ => .inr (.inr ⟨b, e, h.new hb⟩)))
  refine ⟨⟨f.c0 (by omega), f.c1 (by omega), f.t (by omega), h.lo, hl, f.oc (by omega), h.ln, fun k p s n M g => f.ch k p s n M g (by omega) (by omega) (by omega), dj'⟩, hc.k.mono (fun b _ hb => ⟨fun e => hb 1 (by rw [e]; rfl), fun e => hb 2 (show some ve.ownBlock = _ by rw [← e])⟩), fun j b hj => ?_⟩
  rcases set_or (l := sob q pl ve vc P) (k := 2) hj with h1 | h1
  · exact .inl ⟨j, h1⟩
  · rcases hc.n with e | ⟨b', e, hb⟩
    · exact .inl ⟨2, by rw [e] at h1; show some ve.ownBlock = _; rw [h1]⟩
    · rw [e] at h1; cases h1; exact .inr hb
/-- A channel was changed. -/
theorem ST.chan (h : ST B w q pl ve vc P E S N I G) {k : Nat} {p : Pl} {s : Int} (hp : P[k]? = some p) (hs : S[k]? = some s) (hk : Kx (fun b => b ≠ p.1 ∧ b ≠ p.2.1 ∧ some b ≠ p.2.2.ownBlock) w w') {v' : Value} {n' : Int} {M' : List (Int × Int)} {g' : Bool} (hc : CH B w' (p.1, p.2.1, v') s n' M' g') (hv : v'.ownBlock = none ∨ v'.ownBlock = p.2.2.ownBlock ∨ ∃ b, v'.ownBlock = some b ∧ w.heap.size ≤ b) :
    ST B w' q pl ve vc (P.set k (p.1, p.2.1, v')) E S (N.set k n') (I.set k M') (G.set k g') ∧ BC w w' (sob q pl ve vc P) (sob q pl ve vc (P.set k (p.1, p.2.1, v'))) := by
  obtain ⟨e1, e2, e3⟩ := sob_at (q := q) (pl := pl) (ve := ve) (vc := vc) hp
  have hkl := (List.getElem?_eq_some_iff.1 hp).1
  have f := h.keepf (fun j => j = 4 + 3 * k ∨ j = 4 + (3 * k + 1) ∨ j = 4 + (3 * k + 2)) hk (fun j b hd hj => ⟨fun e => hd (.inl (h.dj j (4 + 3 * k) b hj (by rw [e]; exact e1))), fun e => hd (.inr (.inl (h.dj j (4 + (3 * k + 1)) b hj (by rw [e]; exact e2)))), fun e => hd (.inr (.inr (h.dj j (4 + (3 * k + 2)) b hj (by rw [e]; exact e3))))⟩)
  have eqo : (sob q pl ve vc P).set (4 + (3 * k + 2)) v'.ownBlock = sob q pl ve vc (P.set k (p.1, p.2.1, v')) := by
    rw [Nat.add_comm]
    show some q :: some pl :: ve.ownBlock :: vc.ownBlock :: (cob P).set (3 * k + 2) v'.ownBlock = _
    rw [← cob_set P k p v' hp]
    rfl
  have dj' : Dj (sob q pl ve vc (P.set k (p.1, p.2.1, v'))) := eqo ▸ h.dj.set (4 + (3 * k + 2)) v'.ownBlock (hv.elim .inl (fun hb => hb.elim (fun e => .inr (.inl (by rw [e, e3]))) (fun ⟨b, e, hb⟩ => .inr (.inr ⟨b, e, h.new hb⟩))))
  obtain ⟨l1, l2, l3, l4⟩ := h.ln
  refine ⟨⟨f.c0 (by omega), f.c1 (by omega), f.t (by omega), h.lo, f.lg (by omega) (by omega), ?_, by simp only [List.length_set]; exact ⟨l1, l2, l3, l4⟩, fun j p2 s2 n2 M2 g2 q1 q2 q3 q4 q5 => ?_, dj'⟩, hk.mono (fun b _ hb => ⟨fun e => hb (4 + 3 * k) (by rw [e]; exact e1), fun e => hb (4 + (3 * k + 1)) (by rw [e]; exact e2), fun e => hb (4 + (3 * k + 2)) (by rw [e]; exact e3)⟩), fun j b hj => ?_⟩
  · have ho := f.oc (by omega)
    have : pcl (P.set k (p.1, p.2.1, v')) = pcl P := by
      unfold pcl
      rw [List.map_set]
      refine List.ext_getElem? (fun i => ?_)
      by_cases e : k = i
      · subst e
        rw [List.getElem?_set_self (by simpa using hkl), List.getElem?_map, hp]
        rfl
      · rw [List.getElem?_set_ne e]
    rw [this, List.length_set]
    exact ho
  · by_cases e : j = k
    · subst e
      rw [List.getElem?_set_self (by omega)] at q1 q3 q4 q5
      rw [hs] at q2
      cases q1; cases q2; cases q3; cases q4; cases q5
      exact hc
    · rw [List.getElem?_set_ne (fun e' => e e'.symm)] at q1 q3 q4 q5
      exact f.ch j p2 s2 n2 M2 g2 (by omega) (by omega) (by omega) q1 q2 q3 q4 q5
  · rcases set_or (l := sob q pl ve vc P) (k := 4 + (3 * k + 2)) (eqo ▸ hj) with h1 | h1
    · exact .inl ⟨j, h1⟩
    · rcases hv with e | e | ⟨b', e, hb⟩
      · rw [e] at h1; cases h1
      · exact .inl ⟨4 + (3 * k + 2), by rw [e3, ← e, h1]⟩
      · rw [e] at h1; cases h1; exact .inr hb
end
end Go.Proofs.Ytbepaimbbclejaa

import Derived.Test.YtbepaimbbclejaaChB
/- The document's book in memory: what changes it. -/
namespace Go.Proofs.Ytbepaimbbclejaa
open Go.RowKit

section
variable {B : Nat} {w w1 w' : World} {q : Nat} {ve vs vi vg : Value} {iv : List Value} {E : List En} {S : List Int} {I : List (List (Int × Int))} {G : List Bool}
theorem set_or {l : List (Option Nat)} {k : Nat} {x : Option Nat} {j b : Nat} (h : (l.set k x)[j]? = some (some b)) : l[j]? = some (some b) ∨ x = some b := by
  by_cases e : j = k
  · subst e
    rw [List.getElem?_set] at h
    simp only [if_true] at h
    split at h
    · exact .inr (by injection h)
    · cases h
  · rw [List.getElem?_set_ne (fun e' => e e'.symm)] at h
    exact .inl h
theorem snoc_or {l : List (Option Nat)} {j b : Nat} (h : (l ++ [none])[j]? = some (some b)) : l[j]? = some (some b) := by
  rcases Nat.lt_or_ge j l.length with h1 | h1
  · rwa [List.getElem?_append_left h1] at h
  · rw [List.getElem?_append_right h1] at h
    rcases Nat.eq_zero_or_pos (j - l.length) with e | e
    · rw [e] at h; simp at h
    · rw [List.getElem?_eq_none (by simp; omega)] at h; cases h
/-- Another row of ends in the same place. -/
theorem BK.ends (h : BK B w q ve vs vi vg iv E S I G) {E' : List En} (hk : Kx (fun b => some b ≠ ve.ownBlock) w w') (ho : w'.ownsRow B 48 4 ve E'.length (ecl E')) : BK B w' q ve vs vi vg iv E' S I G := by
  have f := h.keepf 1 hk (fun j b hj1 hj e => hj1 (h.dj j 1 b hj (show some ve.ownBlock = _ by rw [← e])))
  exact ⟨f.c0 (by decide), f.c1 (by decide), f.c2 (by decide), f.c3 (by decide), f.t (by decide), h.lo, ho, f.os (by decide), f.oi (by decide), f.og (by decide), fun k M v hM hv => f.it k M v (by omega) hM hv, h.dj⟩
theorem BK.gones (h : BK B w q ve vs vi vg iv E S I G) {G' : List Bool} (hk : Kx (fun b => some b ≠ vg.ownBlock) w w') (ho : w'.ownsRow B 4 1 vg G'.length (G'.map .bool)) : BK B w' q ve vs vi vg iv E S I G' := by
  have f := h.keepf 4 hk (fun j b hj1 hj e => hj1 (h.dj j 4 b hj (show some vg.ownBlock = _ by rw [← e])))
  exact ⟨f.c0 (by decide), f.c1 (by decide), f.c2 (by decide), f.c3 (by decide), f.t (by decide), h.lo, f.oe (by decide), f.os (by decide), f.oi (by decide), ho, fun k M v hM hv => f.it k M v (by omega) hM hv, h.dj⟩
/-- Another row of ends, and its place set. -/
theorem BK.pushE (h : BK B w q ve vs vi vg iv E S I G) {ve' : Value} {E' : List En} (hk : Kx (fun b => some b ≠ ve.ownBlock) w w1) (ho : w1.ownsRow B 48 4 ve' E'.length (ecl E')) (hv : ve'.ownBlock = ve.ownBlock ∨ ∃ b, ve'.ownBlock = some b ∧ w.heap.size ≤ b) : BK B (w1.setCell ⟨q, 0, none⟩ ve') q ve' vs vi vg iv E' S I G ∧ BC w (w1.setCell ⟨q, 0, none⟩ ve') (obs q ve vs vi vg iv) (obs q ve' vs vi vg iv) := by
  have f := h.keepf 1 hk (fun j b hj1 hj e => hj1 (h.dj j 1 b hj (show some ve.ownBlock = _ by rw [← e])))
  have dj' : Dj (obs q ve' vs vi vg iv) := (h.dj.set 1 ve'.ownBlock (hv.elim (fun e => .inr (.inl (by rw [e]; rfl))) (fun ⟨b, e, hb⟩ => .inr (.inr ⟨b, e, h.new hb⟩))))
  have kq : Kx (fun b => b ≠ q) w1 (w1.setCell ⟨q, 0, none⟩ ve') := (Kx.refl _ _).set (p := ⟨q, 0, none⟩) (.inr (fun e => e rfl)) _
  have hne : ∀ (j b : Nat), j ≠ 0 → (obs q ve' vs vi vg iv)[j]? = some (some b) → b ≠ q := fun j b hj hb e => hj (dj' j 0 b hb (by rw [e]; rfl))
  have ko : ∀ {t z n : Nat} {v : Value} {xs : List Value} (j : Nat), w1.ownsRow B t z v n xs → (obs q ve' vs vi vg iv)[j]? = some v.ownBlock → j ≠ 0 → (w1.setCell ⟨q, 0, none⟩ ve').ownsRow B t z v n xs := fun {t z n v xs} j h1 h2 h3 => own_keepe h1 (fun g hg => kq.block g (h1.lt g hg).2 (hne j g h3 (by rw [h2, hg])))
  have cs : ∀ k, k ≠ 0 → ∀ v, w1.cell? ⟨q, k, none⟩ = some v → (w1.setCell ⟨q, 0, none⟩ ve').cell? ⟨q, k, none⟩ = some v := fun k hk v hv => by
    rw [World.cell?_setCell_other _ _ _ _ (fun e => by injection e with _ e2; omega)]
    exact hv
  refine ⟨⟨World.cell?_setCell_same _ _ _ (f.c0 (by decide)), cs 1 (by decide) _ (f.c1 (by decide)), cs 2 (by decide) _ (f.c2 (by decide)), cs 3 (by decide) _ (f.c3 (by decide)), fun k => by rw [World.frozen?_setCell]; exact f.t (by decide) k, h.lo, ko 1 ho rfl (by decide), ko 2 (f.os (by decide)) rfl (by decide), ko 3 (f.oi (by decide)) rfl (by decide), ko 4 (f.og (by decide)) rfl (by decide), ?_, dj'⟩, ?_⟩
  · exact fun k M v hM hv2 => by
      have hio := f.it k M v (by omega) hM hv2
      exact hio.keep (fun g hg => kq.block g (hio.lt g hg).2 (hne (5 + k) g (by omega) (by rw [obs_it hv2, hg])))
  · have kall : Kx (fun b => some b ≠ ve.ownBlock ∧ b ≠ q) w (w1.setCell ⟨q, 0, none⟩ ve') := (hk.mono (fun b _ hb => hb.1)).trans (kq.mono (fun b _ hb => hb.2))
    refine ⟨kall.mono (fun b _ hb => ⟨fun e => hb 1 (show some ve.ownBlock = _ by rw [← e]), fun e => hb 0 (by rw [e]; rfl)⟩), fun j b hj => ?_⟩
    have hj' : (obs q ve vs vi vg iv)[j]? = some (some b) ∨ ve'.ownBlock = some b := set_or (l := obs q ve vs vi vg iv) (k := 1) hj
    rcases hj' with h1 | h1
    · exact .inl ⟨j, h1⟩
    · rcases hv with e | ⟨b', e, hb⟩
      · exact .inl ⟨1, by rw [e] at h1; show some ve.ownBlock = _; rw [h1]⟩
      · rw [e] at h1; cases h1; exact .inr hb
/-- Another row of slots, and its place set. -/
theorem BK.pushS (h : BK B w q ve vs vi vg iv E S I G) {vs' : Value} {S' : List Int} (hk : Kx (fun b => some b ≠ vs.ownBlock) w w1) (ho : w1.ownsRow B 3 1 vs' S'.length (S'.map (.int .i64))) (hv : vs'.ownBlock = vs.ownBlock ∨ ∃ b, vs'.ownBlock = some b ∧ w.heap.size ≤ b) : BK B (w1.setCell ⟨q, 1, none⟩ vs') q ve vs' vi vg iv E S' I G ∧ BC w (w1.setCell ⟨q, 1, none⟩ vs') (obs q ve vs vi vg iv) (obs q ve vs' vi vg iv) := by
  have f := h.keepf 2 hk (fun j b hj1 hj e => hj1 (h.dj j 2 b hj (show some vs.ownBlock = _ by rw [← e])))
  have dj' : Dj (obs q ve vs' vi vg iv) := (h.dj.set 2 vs'.ownBlock (hv.elim (fun e => .inr (.inl (by rw [e]; rfl))) (fun ⟨b, e, hb⟩ => .inr (.inr ⟨b, e, h.new hb⟩))))
  have kq : Kx (fun b => b ≠ q) w1 (w1.setCell ⟨q, 1, none⟩ vs') := (Kx.refl _ _).set (p := ⟨q, 1, none⟩) (.inr (fun e => e rfl)) _
  have hne : ∀ (j b : Nat), j ≠ 0 → (obs q ve vs' vi vg iv)[j]? = some (some b) → b ≠ q := fun j b hj hb e => hj (dj' j 0 b hb (by rw [e]; rfl))
  have ko : ∀ {t z n : Nat} {v : Value} {xs : List Value} (j : Nat), w1.ownsRow B t z v n xs → (obs q ve vs' vi vg iv)[j]? = some v.ownBlock → j ≠ 0 → (w1.setCell ⟨q, 1, none⟩ vs').ownsRow B t z v n xs := fun {t z n v xs} j h1 h2 h3 => own_keepe h1 (fun g hg => kq.block g (h1.lt g hg).2 (hne j g h3 (by rw [h2, hg])))
  have cs : ∀ k, k ≠ 1 → ∀ v, w1.cell? ⟨q, k, none⟩ = some v → (w1.setCell ⟨q, 1, none⟩ vs').cell? ⟨q, k, none⟩ = some v := fun k hk v hv => by
    rw [World.cell?_setCell_other _ _ _ _ (fun e => by injection e with _ e2; omega)]
    exact hv
  refine ⟨⟨cs 0 (by decide) _ (f.c0 (by decide)), World.cell?_setCell_same _ _ _ (f.c1 (by decide)), cs 2 (by decide) _ (f.c2 (by decide)), cs 3 (by decide) _ (f.c3 (by decide)), fun k => by rw [World.frozen?_setCell]; exact f.t (by decide) k, h.lo, ko 1 (f.oe (by decide)) rfl (by decide), ko 2 ho rfl (by decide), ko 3 (f.oi (by decide)) rfl (by decide), ko 4 (f.og (by decide)) rfl (by decide), ?_, dj'⟩, ?_⟩
  · exact fun k M v hM hv2 => by
      have hio := f.it k M v (by omega) hM hv2
      exact hio.keep (fun g hg => kq.block g (hio.lt g hg).2 (hne (5 + k) g (by omega) (by rw [obs_it hv2, hg])))
  · have kall : Kx (fun b => some b ≠ vs.ownBlock ∧ b ≠ q) w (w1.setCell ⟨q, 1, none⟩ vs') := (hk.mono (fun b _ hb => hb.1)).trans (kq.mono (fun b _ hb => hb.2))
    refine ⟨kall.mono (fun b _ hb => ⟨fun e => hb 2 (show some vs.ownBlock = _ by rw [← e]), fun e => hb 0 (by rw [e]; rfl)⟩), fun j b hj => ?_⟩
    have hj' : (obs q ve vs vi vg iv)[j]? = some (some b) ∨ vs'.ownBlock = some b := set_or (l := obs q ve vs vi vg iv) (k := 2) hj
    rcases hj' with h1 | h1
    · exact .inl ⟨j, h1⟩
    · rcases hv with e | ⟨b', e, hb⟩
      · exact .inl ⟨2, by rw [e] at h1; show some vs.ownBlock = _; rw [h1]⟩
      · rw [e] at h1; cases h1; exact .inr hb
/-- Another row of what is gone, and its place set. -/
theorem BK.pushG (h : BK B w q ve vs vi vg iv E S I G) {vg' : Value} {G' : List Bool} (hk : Kx (fun b => some b ≠ vg.ownBlock) w w1) (ho : w1.ownsRow B 4 1 vg' G'.length (G'.map .bool)) (hv : vg'.ownBlock = vg.ownBlock ∨ ∃ b, vg'.ownBlock = some b ∧ w.heap.size ≤ b) : BK B (w1.setCell ⟨q, 3, none⟩ vg') q ve vs vi vg' iv E S I G' ∧ BC w (w1.setCell ⟨q, 3, none⟩ vg') (obs q ve vs vi vg iv) (obs q ve vs vi vg' iv) := by
  have f := h.keepf 4 hk (fun j b hj1 hj e => hj1 (h.dj j 4 b hj (show some vg.ownBlock = _ by rw [← e])))
  have dj' : Dj (obs q ve vs vi vg' iv) := (h.dj.set 4 vg'.ownBlock (hv.elim (fun e => .inr (.inl (by rw [e]; rfl))) (fun ⟨b, e, hb⟩ => .inr (.inr ⟨b, e, h.new hb⟩))))
  have kq : Kx (fun b => b ≠ q) w1 (w1.setCell ⟨q, 3, none⟩ vg') := (Kx.refl _ _).set (p := ⟨q, 3, none⟩) (.inr (fun e => e rfl)) _
  have hne : ∀ (j b : Nat), j ≠ 0 → (obs q ve vs vi vg' iv)[j]? = some (some b) → b ≠ q := fun j b hj hb e => hj (dj' j 0 b hb (by rw [e]; rfl))
  have ko : ∀ {t z n : Nat} {v : Value} {xs : List Value} (j : Nat), w1.ownsRow B t z v n xs → (obs q ve vs vi vg' iv)[j]? = some v.ownBlock → j ≠ 0 → (w1.setCell ⟨q, 3, none⟩ vg').ownsRow B t z v n xs := fun {t z n v xs} j h1 h2 h3 => own_keepe h1 (fun g hg => kq.block g (h1.lt g hg).2 (hne j g h3 (by rw [h2, hg])))
  have cs : ∀ k, k ≠ 3 → ∀ v, w1.cell? ⟨q, k, none⟩ = some v → (w1.setCell ⟨q, 3, none⟩ vg').cell? ⟨q, k, none⟩ = some v := fun k hk v hv => by
    rw [World.cell?_setCell_other _ _ _ _ (fun e => by injection e with _ e2; omega)]
    exact hv
  refine ⟨⟨cs 0 (by decide) _ (f.c0 (by decide)), cs 1 (by decide) _ (f.c1 (by decide)), cs 2 (by decide) _ (f.c2 (by decide)), World.cell?_setCell_same _ _ _ (f.c3 (by decide)), fun k => by rw [World.frozen?_setCell]; exact f.t (by decide) k, h.lo, ko 1 (f.oe (by decide)) rfl (by decide), ko 2 (f.os (by decide)) rfl (by decide), ko 3 (f.oi (by decide)) rfl (by decide), ko 4 ho rfl (by decide), ?_, dj'⟩, ?_⟩
  · exact fun k M v hM hv2 => by
      have hio := f.it k M v (by omega) hM hv2
      exact hio.keep (fun g hg => kq.block g (hio.lt g hg).2 (hne (5 + k) g (by omega) (by rw [obs_it hv2, hg])))
  · have kall : Kx (fun b => some b ≠ vg.ownBlock ∧ b ≠ q) w (w1.setCell ⟨q, 3, none⟩ vg') := (hk.mono (fun b _ hb => hb.1)).trans (kq.mono (fun b _ hb => hb.2))
    refine ⟨kall.mono (fun b _ hb => ⟨fun e => hb 4 (show some vg.ownBlock = _ by rw [← e]), fun e => hb 0 (by rw [e]; rfl)⟩), fun j b hj => ?_⟩
    have hj' : (obs q ve vs vi vg iv)[j]? = some (some b) ∨ vg'.ownBlock = some b := set_or (l := obs q ve vs vi vg iv) (k := 4) hj
    rcases hj' with h1 | h1
    · exact .inl ⟨j, h1⟩
    · rcases hv with e | ⟨b', e, hb⟩
      · exact .inl ⟨4, by rw [e] at h1; show some vg.ownBlock = _; rw [h1]⟩
      · rw [e] at h1; cases h1; exact .inr hb
/-- Another row of items, and its place set. -/
theorem BK.pushI (h : BK B w q ve vs vi vg iv E S I G) {vi' : Value} (hk : Kx (fun b => some b ≠ vi.ownBlock) w w1) (ho : w1.ownsRow B 52 1 vi' (I ++ [[]]).length (iv ++ [.slice none 0 0])) (hv : vi'.ownBlock = vi.ownBlock ∨ ∃ b, vi'.ownBlock = some b ∧ w.heap.size ≤ b) : BK B (w1.setCell ⟨q, 2, none⟩ vi') q ve vs vi' vg (iv ++ [.slice none 0 0]) E S (I ++ [[]]) G ∧ BC w (w1.setCell ⟨q, 2, none⟩ vi') (obs q ve vs vi vg iv) (obs q ve vs vi' vg (iv ++ [.slice none 0 0])) := by
  have eqo : (obs q ve vs vi vg iv).set 3 vi'.ownBlock ++ [none] = obs q ve vs vi' vg (iv ++ [.slice none 0 0]) := by simp [obs, Value.ownBlock]
  have f := h.keepf 3 hk (fun j b hj1 hj e => hj1 (h.dj j 3 b hj (show some vi.ownBlock = _ by rw [← e])))
  have dj' : Dj (obs q ve vs vi' vg (iv ++ [.slice none 0 0])) := eqo ▸ Dj.snoc (h.dj.set 3 vi'.ownBlock (hv.elim (fun e => .inr (.inl (by rw [e]; rfl))) (fun ⟨b, e, hb⟩ => .inr (.inr ⟨b, e, h.new hb⟩))))
  have kq : Kx (fun b => b ≠ q) w1 (w1.setCell ⟨q, 2, none⟩ vi') := (Kx.refl _ _).set (p := ⟨q, 2, none⟩) (.inr (fun e => e rfl)) _
  have hne : ∀ (j b : Nat), j ≠ 0 → (obs q ve vs vi' vg (iv ++ [.slice none 0 0]))[j]? = some (some b) → b ≠ q := fun j b hj hb e => hj (dj' j 0 b hb (by rw [e]; rfl))
  have ko : ∀ {t z n : Nat} {v : Value} {xs : List Value} (j : Nat), w1.ownsRow B t z v n xs → (obs q ve vs vi' vg (iv ++ [.slice none 0 0]))[j]? = some v.ownBlock → j ≠ 0 → (w1.setCell ⟨q, 2, none⟩ vi').ownsRow B t z v n xs := fun {t z n v xs} j h1 h2 h3 => own_keepe h1 (fun g hg => kq.block g (h1.lt g hg).2 (hne j g h3 (by rw [h2, hg])))
  have cs : ∀ k, k ≠ 2 → ∀ v, w1.cell? ⟨q, k, none⟩ = some v → (w1.setCell ⟨q, 2, none⟩ vi').cell? ⟨q, k, none⟩ = some v := fun k hk v hv => by
    rw [World.cell?_setCell_other _ _ _ _ (fun e => by injection e with _ e2; omega)]
    exact hv
  refine ⟨⟨cs 0 (by decide) _ (f.c0 (by decide)), cs 1 (by decide) _ (f.c1 (by decide)), World.cell?_setCell_same _ _ _ (f.c2 (by decide)), cs 3 (by decide) _ (f.c3 (by decide)), fun k => by rw [World.frozen?_setCell]; exact f.t (by decide) k, h.lo, ko 1 (f.oe (by decide)) rfl (by decide), ko 2 (f.os (by decide)) rfl (by decide), ko 3 ho rfl (by decide), ko 4 (f.og (by decide)) rfl (by decide), ?_, dj'⟩, ?_⟩
  · exact fun k M v hM hv2 => by
      rcases Nat.lt_or_ge k I.length with h1 | h1
      · have h2 : iv[k]? = some v := by rwa [List.getElem?_append_left (by rw [h.ivl]; exact h1)] at hv2
        rw [List.getElem?_append_left h1] at hM
        have hio := f.it k M v (by omega) hM h2
        exact hio.keep (fun g hg => kq.block g (hio.lt g hg).2 (hne (5 + k) g (by omega) (by rw [obs_it hv2, hg])))
      · rw [List.getElem?_append_right h1] at hM
        rw [List.getElem?_append_right (by rw [h.ivl]; exact h1), h.ivl] at hv2
        rcases Nat.eq_zero_or_pos (k - I.length) with e | e
        · rw [e] at hM hv2
          simp at hM hv2
          subst hM hv2
          exact .inl ⟨rfl, rfl⟩
        · rw [List.getElem?_eq_none (by simp; omega)] at hM; cases hM
  · have kall : Kx (fun b => some b ≠ vi.ownBlock ∧ b ≠ q) w (w1.setCell ⟨q, 2, none⟩ vi') := (hk.mono (fun b _ hb => hb.1)).trans (kq.mono (fun b _ hb => hb.2))
    refine ⟨kall.mono (fun b _ hb => ⟨fun e => hb 3 (show some vi.ownBlock = _ by rw [← e]), fun e => hb 0 (by rw [e]; rfl)⟩), fun j b hj => ?_⟩
    have hj' : (obs q ve vs vi vg iv)[j]? = some (some b) ∨ vi'.ownBlock = some b := set_or (l := obs q ve vs vi vg iv) (k := 3) (snoc_or (eqo ▸ hj))
    rcases hj' with h1 | h1
    · exact .inl ⟨j, h1⟩
    · rcases hv with e | ⟨b', e, hb⟩
      · exact .inl ⟨3, by rw [e] at h1; show some vi.ownBlock = _; rw [h1]⟩
      · rw [e] at h1; cases h1; exact .inr hb
/-- A row of items is another one, and its place set. -/
theorem BK.setit (h : BK B w q ve vs vi vg iv E S I G) {k : Nat} {M M' : List (Int × Int)} {v v' : Value} (hM : I[k]? = some M) (hv : iv[k]? = some v) {gi ci : Nat} (hvi : vi = .slice (some ⟨gi, 0, none⟩) I.length ci) (hk : Kx (fun b => some b ≠ v.ownBlock) w w1) (hio : IO B w1 v' M') (hb : v'.ownBlock = none ∨ v'.ownBlock = v.ownBlock ∨ ∃ b, v'.ownBlock = some b ∧ w.heap.size ≤ b) :
    BK B (w1.setCell ⟨gi, k, none⟩ v') q ve vs vi vg (iv.set k v') E S (I.set k M') G ∧ BC w (w1.setCell ⟨gi, k, none⟩ v') (obs q ve vs vi vg iv) (obs q ve vs vi vg (iv.set k v')) := by
  have hkl := (List.getElem?_eq_some_iff.1 hv).1
  have eqo : (obs q ve vs vi vg iv).set (5 + k) v'.ownBlock = obs q ve vs vi vg (iv.set k v') := by
    rw [Nat.add_comm]
    show some q :: ve.ownBlock :: vs.ownBlock :: vi.ownBlock :: vg.ownBlock :: (iv.map Value.ownBlock).set k v'.ownBlock = _
    rw [← List.map_set]
    rfl
  have f := h.keepf (5 + k) hk (fun j b hj1 hj e => hj1 (h.dj j (5 + k) b hj (by rw [obs_it hv, ← e])))
  have dj' : Dj (obs q ve vs vi vg (iv.set k v')) := eqo ▸ h.dj.set (5 + k) v'.ownBlock (hb.elim .inl (fun hb => hb.elim (fun e => .inr (.inl (by rw [e, obs_it hv]))) (fun ⟨b, e, hb⟩ => .inr (.inr ⟨b, e, h.new hb⟩))))
  have hgi : (obs q ve vs vi vg (iv.set k v'))[3]? = some (some gi) := by show some vi.ownBlock = _; rw [hvi]; rfl
  have kg : Kx (fun b => b ≠ gi) w1 (w1.setCell ⟨gi, k, none⟩ v') := (Kx.refl _ _).set (p := ⟨gi, k, none⟩) (.inr (fun e => e rfl)) _
  have hne : ∀ (j b : Nat), j ≠ 3 → (obs q ve vs vi vg (iv.set k v'))[j]? = some (some b) → b ≠ gi := fun j b hj hb e => hj (dj' j 3 b hb (by rw [hgi, e]))
  have ko : ∀ {t z n : Nat} {v2 : Value} {xs : List Value} (j : Nat), w1.ownsRow B t z v2 n xs → (obs q ve vs vi vg (iv.set k v'))[j]? = some v2.ownBlock → j ≠ 3 → (w1.setCell ⟨gi, k, none⟩ v').ownsRow B t z v2 n xs := fun {t z n v2 xs} j h1 h2 h3 => own_keepe h1 (fun g hg => kg.block g (h1.lt g hg).2 (hne j g h3 (by rw [h2, hg])))
  have hq : q ≠ gi := hne 0 q (by decide) rfl
  have ki : ∀ {v2 : Value} {M2 : List (Int × Int)} (j : Nat), IO B w1 v2 M2 → (iv.set k v')[j]? = some v2 → IO B (w1.setCell ⟨gi, k, none⟩ v') v2 M2 := fun {v2 M2} j h1 h2 => h1.keep (fun g hg => kg.block g (h1.lt g hg).2 (hne (5 + j) g (by omega) (by rw [obs_it h2, hg])))
  have hoi := f.oi (by omega)
  rw [hvi] at hoi
  refine ⟨⟨kg.cell (f.c0 (by omega)) hq, kg.cell (f.c1 (by omega)) hq, kg.cell (f.c2 (by omega)) hq, kg.cell (f.c3 (by omega)) hq, fun j => by rw [World.frozen?_setCell]; exact f.t (by omega) j, h.lo, ko 1 (f.oe (by omega)) rfl (by decide), ko 2 (f.os (by omega)) rfl (by decide), ?_, ko 4 (f.og (by omega)) rfl (by decide), ?_, dj'⟩, ?_⟩
  · rw [List.length_set, hvi]
    exact (hoi.stored k v').1
  · intro j M2 v2 hM2 hv2
    by_cases e : j = k
    · subst e
      have e1 : v' = v2 := by rw [List.getElem?_set_self hkl] at hv2; injection hv2
      have e2 : M' = M2 := by rw [List.getElem?_set_self (List.getElem?_eq_some_iff.1 hM).1] at hM2; injection hM2
      subst e1 e2
      exact ki j hio hv2
    · have hv3 := hv2
      rw [List.getElem?_set_ne (fun e' => e e'.symm)] at hv2 hM2
      exact ki j (f.it j M2 v2 (by omega) hM2 hv2) hv3
  · have kall : Kx (fun b => some b ≠ v.ownBlock ∧ b ≠ gi) w (w1.setCell ⟨gi, k, none⟩ v') := (hk.mono (fun b _ hb => hb.1)).trans (kg.mono (fun b _ hb => hb.2))
    refine ⟨kall.mono (fun b _ hb => ⟨fun e => hb (5 + k) (by rw [obs_it hv, ← e]), fun e => hb 3 (by show some vi.ownBlock = _; rw [hvi, e]; rfl)⟩), fun j b hj => ?_⟩
    rcases set_or (l := obs q ve vs vi vg iv) (k := 5 + k) (eqo ▸ hj) with h1 | h1
    · exact .inl ⟨j, h1⟩
    · rcases hb with e | e | ⟨b', e, hb⟩
      · rw [e] at h1; cases h1
      · exact .inl ⟨5 + k, by rw [obs_it hv, ← e, h1]⟩
      · rw [e] at h1; cases h1; exact .inr hb
end
end Go.Proofs.Ytbepaimbbclejaa

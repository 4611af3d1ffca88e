/- The tokens of two texts with a newline between. -/
import Derived.Test.YtlipncdfmloijabDoorTokH
namespace Go.Proofs.YtlipncdfmloijabDoor.Tk

theorem skip_join (X B : List UInt8) (r : Bool) : skip r (X ++ 10 :: B) = if skip r X = X.length then X.length + 1 + skip false B else skip r X := by
  induction X generalizing r with
  | nil => simp [skip]; omega
  | cons b t ih =>
    have h1 := skip_le t false
    have h2 := skip_le t true
    have h3 := skip_le t r
    simp only [List.cons_append, skip, List.length_cons]
    by_cases c1 : b.toNat = 10
    · simp only [if_pos c1]
      rw [ih false]
      split <;> split <;> omega
    · simp only [if_neg c1]
      by_cases c2 : b.toNat = 35
      · simp only [if_pos c2]
        rw [ih true]
        split <;> split <;> omega
      · simp only [if_neg c2]
        by_cases c3 : (!r && !isB b) = true
        · simp only [if_pos c3]
          rw [if_neg (by omega)]
        · simp only [if_neg c3]
          rw [ih r]
          split <;> split <;> omega
theorem drop_past (X B : List UInt8) (k : Nat) : (X ++ 10 :: B).drop (X.length + (1 + k)) = B.drop k := by
  induction X with
  | nil => simp [Nat.add_comm 1]
  | cons b t ih =>
    rw [List.length_cons, show t.length + 1 + (1 + k) = (t.length + (1 + k)) + 1 from by omega, List.cons_append, List.drop_succ_cons]
    exact ih
theorem run_join (X B : List UInt8) : run (X ++ 10 :: B) = run X := by
  induction X with
  | nil => simp [run, isL, isD]
  | cons b t ih => simp only [List.cons_append, run, ih]
theorem signAns_join (X B : List UInt8) (h : X ≠ []) : signAns (X ++ 10 :: B) = signAns X := by
  match X, h with
  | [b], _ =>
    simp only [List.cons_append, List.nil_append]
    unfold signAns
    split
    · simp_all
    · rename_i e; simp at e
    · rename_i e1 e2
      simp only [List.cons.injEq] at e2
      obtain ⟨rfl, _⟩ := e2
      split
      · simp_all
      · simp_all
  | b :: c :: t, _ =>
    simp only [List.cons_append]
    by_cases h1 : b = 61
    · by_cases h2 : c = 61
      · subst h1 h2; rfl
      · subst h1; simp [signAns, h2]
    · simp [signAns, h1]
theorem tok_join (X B : List UInt8) (h : X ≠ []) : tok (X ++ 10 :: B) = tok X := by
  unfold tok
  rw [run_join, signAns_join X B h]
  have h1 := run_le X
  have h2 : (X ++ 10 :: B).take (run X) = X.take (run X) := by rw [List.take_append_of_le_length h1]
  have h3 : (X ++ 10 :: B).headD 0 = X.headD 0 := by cases X with | nil => exact absurd rfl h | cons b t => rfl
  rw [h2, h3]

theorem tl_fuel (f f' p : Nat) (l : List UInt8) (h : l.length < f) (h' : l.length < f') : tl f p l = tl f' p l := by
  induction f generalizing f' p l with
  | zero => omega
  | succ f ih =>
    obtain ⟨g, rfl⟩ : ∃ g, f' = g + 1 := ⟨f' - 1, by omega⟩
    by_cases hl : l = []
    · rw [hl, tl_nil, tl_nil]
    · by_cases hc : (tok l).code = 0
      · obtain ⟨h1, h2⟩ := tok_len _ hc
        rw [tok_at _ _ _ hl hc, tok_at _ _ _ hl hc]
        dsimp only
        rw [ih g _ _ (by rw [List.length_drop]; omega) (by rw [List.length_drop]; omega)]
      · rw [tok_bad _ _ _ hl hc, tok_bad _ _ _ hl hc]

theorem tl_places (l : List UInt8) (f p : Nat) : ∀ t ∈ (tl f p l).1, t.at' ≤ p + l.length := by
  induction f generalizing p l with
  | zero => simp [tl]
  | succ f ih =>
    by_cases hl : l = []
    · rw [hl, tl_nil]; simp
    · by_cases hc : (tok l).code = 0
      · obtain ⟨h1, h2⟩ := tok_len _ hc
        have hsk := skip_le (l.drop (tok l).len) false
        rw [List.length_drop] at hsk
        rw [tok_at _ _ _ hl hc]
        dsimp only
        have h3 := ih (l.drop ((tok l).len + skip false (l.drop (tok l).len))) (p + ((tok l).len + skip false (l.drop (tok l).len)))
        rw [List.length_drop] at h3
        split
        · simp
        · intro t ht
          simp only [List.mem_cons] at ht
          rcases ht with rfl | ht
          · simp
          · have := h3 t ht; omega
      · rw [tok_bad _ _ _ hl hc]; simp
theorem scan_places (l : List UInt8) (hl : l.length ≤ 12000) : ∀ t ∈ (scan l).1, t.at' ≤ l.length := by
  unfold scan
  rw [if_neg (by omega)]
  intro t ht
  have hs := skip_le l false
  have := tl_places _ _ _ t ht
  rw [List.length_drop] at this
  omega

/-- All further behind. -/
def shift (d : Nat) (t : Tok) : Tok := ⟨t.kind, t.at' + d, t.text, t.n⟩
def shiftR (d : Nat) (r : List Tok × Int × Int) : List Tok × Int × Int := (r.1.map (shift d), r.2.1, if r.2.1 = 0 then r.2.2 else r.2.2 + (d : Int))
theorem tl_shift (d f p : Nat) (l : List UInt8) : tl f (p + d) l = shiftR d (tl f p l) := by
  induction f generalizing p l with
  | zero => simp [tl, shiftR]
  | succ f ih =>
    by_cases hl : l = []
    · rw [hl, tl_nil, tl_nil]; simp [shiftR]
    · by_cases hc : (tok l).code = 0
      · rw [tok_at _ _ _ hl hc, tok_at _ _ _ hl hc]
        dsimp only
        have e : p + d + ((tok l).len + skip false (l.drop (tok l).len)) = (p + ((tok l).len + skip false (l.drop (tok l).len))) + d := by omega
        rw [e, ih]
        generalize tl f (p + ((tok l).len + skip false (l.drop (tok l).len))) (l.drop ((tok l).len + skip false (l.drop (tok l).len))) = r
        by_cases hr : r.2.1 = 0
        · simp [shiftR, hr, shift]
        · simp [shiftR, hr]
      · rw [tok_bad _ _ _ hl hc, tok_bad _ _ _ hl hc]
        simp [shiftR, hc]

/-- One behind the other. -/
def comb2 (r1 r2 : List Tok × Int × Int) : List Tok × Int × Int := if r1.2.1 ≠ 0 then ([], r1.2) else comb r1.1 r2
theorem comb2_cons (t : Tok) (r1 r2 : List Tok × Int × Int) :
    comb2 (if r1.2.1 ≠ 0 then ([], r1.2) else (t :: r1.1, r1.2)) r2 = (if (comb2 r1 r2).2.1 ≠ 0 then ([], (comb2 r1 r2).2) else (t :: (comb2 r1 r2).1, (comb2 r1 r2).2)) := by
  by_cases h1 : r1.2.1 = 0
  · by_cases h2 : r2.2.1 = 0
    · simp [comb2, comb, h1, h2]
    · simp [comb2, comb, h1, h2]
  · simp [comb2, h1]

theorem tl_join (B : List UInt8) (f F p : Nat) (X : List UInt8) (hX : X ≠ []) (hf : X.length < f) (hF : X.length + B.length + 1 < F) :
    tl F p (X ++ 10 :: B) = comb2 (tl f p X) (tl (B.length + 1) (p + X.length + 1 + skip false B) (B.drop (skip false B))) := by
  induction f generalizing F p X with
  | zero => omega
  | succ f ih =>
    obtain ⟨G, rfl⟩ : ∃ G, F = G + 1 := ⟨F - 1, by omega⟩
    have hne : X ++ 10 :: B ≠ [] := by simp
    have htj := tok_join X B hX
    by_cases hc : (tok X).code = 0
    · obtain ⟨h1, h2⟩ := tok_len _ hc
      rw [tok_at _ _ _ hne (by rw [htj]; exact hc), tok_at _ _ _ hX hc, htj]
      dsimp only
      rw [comb2_cons]
      have e1 : (X ++ 10 :: B).drop (tok X).len = X.drop (tok X).len ++ 10 :: B := List.drop_append_of_le_length h2
      have e2 : (X ++ 10 :: B).take (tok X).len = X.take (tok X).len := List.take_append_of_le_length h2
      rw [e1, e2, skip_join]
      have hsk := skip_le (X.drop (tok X).len) false
      rw [List.length_drop] at hsk
      suffices hs : tl G (p + ((tok X).len + if skip false (X.drop (tok X).len) = (X.drop (tok X).len).length then (X.drop (tok X).len).length + 1 + skip false B else skip false (X.drop (tok X).len)))
          ((X ++ 10 :: B).drop ((tok X).len + if skip false (X.drop (tok X).len) = (X.drop (tok X).len).length then (X.drop (tok X).len).length + 1 + skip false B else skip false (X.drop (tok X).len))) =
          comb2 (tl f (p + ((tok X).len + skip false (X.drop (tok X).len))) (X.drop ((tok X).len + skip false (X.drop (tok X).len)))) (tl (B.length + 1) (p + X.length + 1 + skip false B) (B.drop (skip false B))) by
        rw [hs]
      by_cases hs : skip false (X.drop (tok X).len) = (X.drop (tok X).len).length
      · rw [if_pos hs, hs, List.length_drop]
        have e3 : X.drop ((tok X).len + (X.length - (tok X).len)) = [] := List.drop_of_length_le (by omega)
        rw [e3, tl_nil]
        have e4 : (X ++ 10 :: B).drop ((tok X).len + (X.length - (tok X).len + 1 + skip false B)) = B.drop (skip false B) := by
          rw [show (tok X).len + (X.length - (tok X).len + 1 + skip false B) = X.length + (1 + skip false B) from by omega, drop_past]
        rw [e4, show p + ((tok X).len + (X.length - (tok X).len + 1 + skip false B)) = p + X.length + 1 + skip false B from by omega]
        have hsB := skip_le B false
        rw [tl_fuel G (B.length + 1) _ _ (by rw [List.length_drop]; omega) (by rw [List.length_drop]; omega)]
        rw [show comb2 ([], 0, 0) (tl (B.length + 1) (p + X.length + 1 + skip false B) (B.drop (skip false B))) = comb [] (tl (B.length + 1) (p + X.length + 1 + skip false B) (B.drop (skip false B))) from by simp [comb2]]
        rw [comb_nil _ (tl_nofault _ _ _)]
      · rw [if_neg hs]
        rw [List.length_drop] at hs
        have e5 : (X ++ 10 :: B).drop ((tok X).len + skip false (X.drop (tok X).len)) = X.drop ((tok X).len + skip false (X.drop (tok X).len)) ++ 10 :: B := List.drop_append_of_le_length (by omega)
        have hl5 : (X.drop ((tok X).len + skip false (X.drop (tok X).len))).length = X.length - ((tok X).len + skip false (X.drop (tok X).len)) := List.length_drop
        rw [e5, ih G _ _ (by intro e; rw [e] at hl5; simp at hl5; omega) (by omega) (by omega), hl5]
        congr 2
        omega
    · rw [tok_bad _ _ _ hne (by rw [htj]; exact hc), tok_bad _ _ _ hX hc, htj]
      simp [comb2, hc]

theorem scan_join (A B : List UInt8) (hA : A.length ≤ 5900) (hB : B.length ≤ 5900) : scan (A ++ 10 :: B) = comb2 (scan A) (shiftR (A.length + 1) (scan B)) := by
  unfold scan
  have hC : (A ++ 10 :: B).length = A.length + B.length + 1 := by simp; omega
  have hsA := skip_le A false
  have hsB := skip_le B false
  rw [if_neg (by omega), if_neg (by omega), if_neg (by omega), ← tl_shift, hC, skip_join]
  by_cases hs : skip false A = A.length
  · rw [if_pos hs, hs]
    have e3 : A.drop A.length = [] := List.drop_of_length_le (by omega)
    have e4 : (A ++ 10 :: B).drop (A.length + 1 + skip false B) = B.drop (skip false B) := by
      rw [show A.length + 1 + skip false B = A.length + (1 + skip false B) from by omega, drop_past]
    rw [e3, e4, tl_nil]
    rw [tl_fuel (A.length + B.length + 1 + 1) (B.length + 1) _ _ (by rw [List.length_drop]; omega) (by rw [List.length_drop]; omega)]
    rw [show comb2 ([], 0, 0) (tl (B.length + 1) (skip false B + (A.length + 1)) (B.drop (skip false B))) = comb [] (tl (B.length + 1) (skip false B + (A.length + 1)) (B.drop (skip false B))) from by simp [comb2]]
    rw [comb_nil _ (tl_nofault _ _ _), show A.length + 1 + skip false B = skip false B + (A.length + 1) from by omega]
  · rw [if_neg hs]
    have e5 : (A ++ 10 :: B).drop (skip false A) = A.drop (skip false A) ++ 10 :: B := List.drop_append_of_le_length hsA
    have hl5 : (A.drop (skip false A)).length = A.length - skip false A := List.length_drop
    rw [e5, tl_join B (A.length + 1) _ _ _ (by intro e; rw [e] at hl5; simp at hl5; omega) (by omega) (by omega), hl5]
    congr 2
    omega
end Go.Proofs.YtlipncdfmloijabDoor.Tk

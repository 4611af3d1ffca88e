/- What tokens cover: each stands where it says; between are blanks. -/
import Derived.Test.YtlipncdfmloijaaDoorTok
namespace Go.Proofs.YtlipncdfmloijaaDoor.Tk

/-- From the place a on: blanks, a token, and so on; at last blanks to the end. -/
def Cov (l : List UInt8) : Nat → List Tok → Prop
  | a, [] => a + skip false (l.drop a) = l.length
  | a, t :: ts => t.at' = a + skip false (l.drop a) ∧ 0 < t.text.length ∧ t.at' + t.text.length ≤ l.length ∧ t.text = (l.drop t.at').take t.text.length ∧ Cov l (t.at' + t.text.length) ts

theorem cov_tl (l : List UInt8) (f p a : Nat) (hp : p ≤ l.length) (hf : (l.drop p).length < f) (hn : (tl f p (l.drop p)).2.1 = 0) (ha : a + skip false (l.drop a) = p) : Cov l a (tl f p (l.drop p)).1 := by
  induction f generalizing p a with
  | zero => omega
  | succ f ih =>
    by_cases hl : l.drop p = []
    · rw [hl, tl_nil]
      have : l.length ≤ p := by simpa using hl
      show a + _ = _
      omega
    · by_cases hc : (tok (l.drop p)).code = 0
      · obtain ⟨h1, h2⟩ := tok_len _ hc
        rw [tok_at _ _ _ hl hc] at hn ⊢
        dsimp only at hn ⊢
        rw [List.length_drop] at h2 hf
        have hsk := skip_le ((l.drop p).drop (tok (l.drop p)).len) false
        rw [List.length_drop, List.length_drop] at hsk
        rw [List.drop_drop] at hn hsk ⊢
        rw [List.drop_drop] at hn ⊢
        by_cases hq : (tl f (p + ((tok (l.drop p)).len + skip false (l.drop (p + (tok (l.drop p)).len)))) (l.drop (p + ((tok (l.drop p)).len + skip false (l.drop (p + (tok (l.drop p)).len)))))).2.1 = 0
        · rw [if_neg (by simpa using hq)]
          have hlen : ((l.drop p).take (tok (l.drop p)).len).length = (tok (l.drop p)).len := by
            rw [List.length_take, List.length_drop]; omega
          refine ⟨ha.symm, by dsimp only; omega, by dsimp only; omega, by dsimp only; rw [hlen], ?_⟩
          dsimp only
          rw [hlen]
          refine ih _ _ (by omega) (by rw [List.length_drop]; omega) hq (by omega)
        · rw [if_pos (by simpa using hq)] at hn
          exact absurd hn hq
      · rw [tok_bad _ _ _ hl hc] at hn
        exact absurd hn hc

theorem cov_scan (l : List UInt8) (hl : l.length ≤ 12000) (h : (scan l).2.1 = 0) : Cov l 0 (scan l).1 := by
  unfold scan at h ⊢
  rw [if_neg (by omega)] at h ⊢
  have hs := skip_le l false
  exact cov_tl l _ _ 0 hs (by rw [List.length_drop]; omega) h (by simp)

theorem tl_where (l : List UInt8) (f p : Nat) (hp : p ≤ l.length) : 0 ≤ (tl f p (l.drop p)).2.2 ∧ (tl f p (l.drop p)).2.2 ≤ (l.length : Int) := by
  induction f generalizing p with
  | zero => simp [tl]
  | succ f ih =>
    by_cases hl : l.drop p = []
    · rw [hl, tl_nil]; simp
    · by_cases hc : (tok (l.drop p)).code = 0
      · obtain ⟨h1, h2⟩ := tok_len _ hc
        rw [tok_at _ _ _ hl hc]
        dsimp only
        rw [List.length_drop] at h2
        have hsk := skip_le ((l.drop p).drop (tok (l.drop p)).len) false
        rw [List.length_drop, List.length_drop] at hsk
        rw [List.drop_drop] at hsk ⊢
        rw [List.drop_drop]
        have h3 := ih (p + ((tok (l.drop p)).len + skip false (l.drop (p + (tok (l.drop p)).len)))) (by omega)
        split
        · exact h3
        · exact h3
      · rw [tok_bad _ _ _ hl hc]
        simp
        omega
theorem scan_where (l : List UInt8) (hl : l.length ≤ 12000) : 0 ≤ (scan l).2.2 ∧ (scan l).2.2 ≤ (l.length : Int) := by
  unfold scan
  rw [if_neg (by omega)]
  exact tl_where l _ _ (skip_le l false)
theorem scan_none (l : List UInt8) (hl : l.length ≤ 12000) (h : (scan l).2.1 ≠ 0) : (scan l).1 = [] := by
  unfold scan at h ⊢
  rw [if_neg (by omega)] at h ⊢
  exact tl_nofault _ _ _ h
theorem tl_count (l : List UInt8) (f p : Nat) : (tl f p l).1.length ≤ l.length := by
  induction f generalizing p l with
  | zero => simp [tl]
  | succ f ih =>
    by_cases hl : l = []
    · rw [hl, tl_nil]; simp
    · by_cases hc : (tok l).code = 0
      · obtain ⟨h1, h2⟩ := tok_len _ hc
        rw [tok_at _ _ _ hl hc]
        dsimp only
        have h3 := ih (l.drop ((tok l).len + skip false (l.drop (tok l).len))) (p + ((tok l).len + skip false (l.drop (tok l).len)))
        rw [List.length_drop] at h3
        split
        · simp
        · simp only [List.length_cons]; omega
      · rw [tok_bad _ _ _ hl hc]; simp
theorem scan_count (l : List UInt8) : (scan l).1.length ≤ l.length := by
  unfold scan
  split
  · simp
  · have := tl_count (l.drop (skip false l)) (l.length + 1) (skip false l)
    rw [List.length_drop] at this
    omega
end Go.Proofs.YtlipncdfmloijaaDoor.Tk

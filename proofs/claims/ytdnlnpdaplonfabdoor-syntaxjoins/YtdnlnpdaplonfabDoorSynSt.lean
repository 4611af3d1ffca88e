import Derived.Test.YtdnlnpdaplonfabDoorSnL
import Derived.Test.YtdnlnpdaplonfabDoorPlC
/- A program's text that is cut off has fewer stages, if it is a program. -/
namespace Go.Proofs.YtdnlnpdaplonfabDoor
open Go.RowKit

theorem parsed_ok {l : List UInt8} {p : List Sx.Tr} {s : Sx.St} {r : List Tk.Tok} (h : Sx.parsed l = .inl (p, s, r)) : (Tk.scan l).2.1 = 0 ∧ Sx.prog l.length 72001 12001 (Tk.scan l).1 = .inl (p, s, r) := by
  unfold Sx.parsed Sx.parse at h
  split at h
  · cases h
  · rename_i hc
    exact ⟨by simpa using hc, h⟩
theorem scan_cut (l : List UInt8) (q : Nat) (hl : l.length ≤ 12000) (h : (Tk.scan l).2.1 = 0) (h' : (Tk.scan (l.take q)).2.1 = 0) (hne : (Tk.scan (l.take q)).1 ≠ []) : Tk.CutOf (Tk.scan l).1 (Tk.scan (l.take q)).1 q := by
  have hl2 : (l.take q).length ≤ 12000 := by rw [List.length_take]; omega
  unfold Tk.scan at h h' hne ⊢
  rw [if_neg (by omega)] at h h' hne
  rw [if_neg (by omega), if_neg (by omega)]
  rw [Tk.skip_take] at h' hne ⊢
  have hsk := Tk.skip_le l false
  by_cases hq : Tk.skip false l ≤ q
  · rw [show min (Tk.skip false l) q = Tk.skip false l from by omega, List.drop_take] at h' hne ⊢
    have hx := Tk.cut_tl (l.length + 1) ((l.take q).length + 1) (Tk.skip false l) (q - Tk.skip false l) (l.drop (Tk.skip false l)) (by rw [List.length_drop]; omega) (by rw [List.length_take, List.length_drop, List.length_take]; omega) h h'
    rw [show Tk.skip false l + (q - Tk.skip false l) = q from by omega] at hx
    exact hx
  · rw [show min (Tk.skip false l) q = q from by omega] at hne
    exfalso
    apply hne
    rw [List.drop_eq_nil_of_le (by rw [List.length_take]; omega), Tk.tl_nil]
theorem cut_less (l : List UInt8) (q : Nat) (hl : l.length ≤ 12000) {p p' : List Sx.Tr} {s s' : Sx.St} {r r' : List Tk.Tok} (hp : Sx.parsed l = .inl (p, s, r)) (hq : Sx.parsed (l.take q) = .inl (p', s', r'))
    (t : Tk.Tok) (ht : t ∈ (Tk.scan l).1) (hat : q ≤ t.at') : p'.length < p.length := by
  obtain ⟨c1, g1⟩ := parsed_ok hp
  obtain ⟨c2, g2⟩ := parsed_ok hq
  obtain ⟨pre, t2, h2, h3⟩ := Sx.prog_end _ _ _ _ _ _ _ g2
  have hne : (Tk.scan (l.take q)).1 ≠ [] := by rw [h2]; simp
  rcases scan_cut l q hl c1 c2 hne with ⟨k, hk, hk2⟩ | ⟨B', t', hB, hB2⟩
  · have hk3 : k < (Tk.scan l).1.length := by
      rcases hk2 with h | h
      · exact h
      · have := h t ht
        omega
    rw [hk] at g2
    have hsp : (Tk.scan l).1 = (Tk.scan l).1.take k ++ (Tk.scan l).1.drop k := (List.take_append_drop _ _).symm
    rw [hsp] at g1
    rw [List.length_take] at g2
    exact Sx.prog_more _ _ _ _ _ _ _ _ _ _ _ _ (by simpa using hk3) (by simpa using g2) g1
  · rw [h2] at hB
    have := (List.append_inj' hB rfl).2
    simp at this
    rw [this] at h3
    exact absurd h3 hB2
end Go.Proofs.YtdnlnpdaplonfabDoor

/- Where the next token stands; what stands there, by its first byte. -/
import Derived.Test.YtlipncdfmloijaaDoorTokM
namespace Go.Proofs.YtlipncdfmloijaaDoor
open Go.RowKit

/-- Where the next token stands, or the end. -/
def nx (l : List UInt8) (p : Nat) : Nat := p + Tk.skip false (l.drop p)
theorem nx_le (l : List UInt8) (p : Nat) (h : p ≤ l.length) : p ≤ nx l p ∧ nx l p ≤ l.length := by
  unfold nx
  have := Tk.skip_le (l.drop p) false
  rw [List.length_drop] at this
  omega
theorem nx_blank (s : ByteArray) (p : Nat) (h : p < s.size) (hc : (s[p].toNat : Int) = 32 ∨ (s[p].toNat : Int) = 9 ∨ (s[p].toNat : Int) = 10 ∨ (s[p].toNat : Int) = 13) : nx s.data.toList (p + 1) = nx s.data.toList p := by
  unfold nx
  by_cases h10 : ((s[p].toNat : Int) == 10) = true
  · rw [skip_nl s false p h h10]; omega
  · have h10' : ((s[p].toNat : Int) == 10) = false := by simpa using h10
    have h35 : ((s[p].toNat : Int) == 35) = false := by
      rw [Bool.eq_false_iff]; intro e; have := beq_iff_eq.1 e; omega
    have hB : Tk.isB s[p] = true := by
      rw [Tk.isB_int]
      simp only [Bool.or_eq_true, beq_iff_eq]
      omega
    rw [skip_else s false p h h10' h35 (by rw [hB]; rfl)]; omega
theorem nx_rem (s : ByteArray) (p : Nat) (h : p < s.size) (hc : (s[p].toNat : Int) = 35) : nx s.data.toList p = p + Tk.skip true (s.data.toList.drop p) := by
  unfold nx
  have h10 : ((s[p].toNat : Int) == 10) = false := by rw [hc]; rfl
  have h35 : ((s[p].toNat : Int) == 35) = true := by rw [hc]; rfl
  rw [skip_rem s false p h h10 h35, skip_rem s true p h h10 h35]
theorem rem_step (s : ByteArray) (p : Nat) (h : p < s.size) (hc : ((s[p].toNat : Int) == 10) = false) : p + 1 + Tk.skip true (s.data.toList.drop (p + 1)) = p + Tk.skip true (s.data.toList.drop p) := by
  cases h35 : ((s[p].toNat : Int) == 35)
  · rw [skip_else s true p h hc h35 rfl]; omega
  · rw [skip_rem s true p h hc h35]; omega
theorem rem_end (s : ByteArray) (p : Nat) (h : p < s.size) (hc : ((s[p].toNat : Int) == 10) = true) : nx s.data.toList p = p + Tk.skip true (s.data.toList.drop p) := by
  unfold nx
  rw [skip_nl s false p h hc, skip_nl s true p h hc]
theorem rem_over (s : ByteArray) (p : Nat) (h : ¬ p < s.size) : nx s.data.toList p = p + Tk.skip true (s.data.toList.drop p) := by
  unfold nx
  rw [skip_end s false p h, skip_end s true p h]
theorem nx_tok (s : ByteArray) (p : Nat) (h : p < s.size) (h10 : ((s[p].toNat : Int) == 10) = false) (h35 : ((s[p].toNat : Int) == 35) = false) (hB : Tk.isB s[p] = false) : nx s.data.toList p = p := by
  unfold nx
  rw [skip_stop s false p h h10 h35 (by rw [hB]; rfl)]; omega

theorem head_drop (s : ByteArray) (p : Nat) (h : p < s.size) : (s.data.toList.drop p).headD 0 = s[p] := by rw [drop_at s p h]; rfl
theorem run_pos (s : ByteArray) (p : Nat) (h : p < s.size) (hor : (Tk.isL s[p] || Tk.isD s[p]) = true) : 0 < Tk.run (s.data.toList.drop p) := by
  rw [run_step s p h hor]; omega
theorem tok_name (s : ByteArray) (p : Nat) (h : p < s.size) (hL : Tk.isL s[p] = true) : Tk.tok (s.data.toList.drop p) = Tk.nameAns ((s.data.toList.drop p).take (Tk.run (s.data.toList.drop p))) := by
  unfold Tk.tok
  have hD : Tk.isD s[p] = false := by
    rw [Tk.isL_int] at hL
    rw [Tk.isD_int]
    simp only [Bool.and_eq_true, decide_eq_true_eq] at hL
    rw [show decide ((s[p].toNat : Int) ≤ 57) = false from by simp; omega]
    simp
  rw [if_pos (run_pos s p h (by rw [hL]; rfl)), head_drop s p h, if_neg (by rw [hD]; simp)]
theorem tok_num (s : ByteArray) (p : Nat) (h : p < s.size) (hD : Tk.isD s[p] = true) : Tk.tok (s.data.toList.drop p) = Tk.numAns ((s.data.toList.drop p).take (Tk.run (s.data.toList.drop p))) := by
  unfold Tk.tok
  rw [if_pos (run_pos s p h (by rw [hD]; simp)), head_drop s p h, if_pos hD]
theorem tok_sign (s : ByteArray) (p : Nat) (h : p < s.size) (hL : Tk.isL s[p] = false) (hD : Tk.isD s[p] = false) : Tk.tok (s.data.toList.drop p) = if signLen (s.data.toList.drop p) = 0 then ⟨2, 0, 0, 0⟩ else ⟨0, 4, signLen (s.data.toList.drop p), 0⟩ := by
  unfold Tk.tok
  rw [if_neg (by rw [run_stop s p h (by rw [hL, hD]; rfl)]; omega), signAns_eq _ (drop_ne s p h)]
theorem sign_two (s : ByteArray) (p : Nat) (h : p + 1 < s.size) (h1 : (s[p].toNat : Int) = 61) (h2 : (s[p + 1].toNat : Int) = 61) : signLen (s.data.toList.drop p) = 2 := by
  have e1 : s[p] = 61 := UInt8.toNat_inj.1 (by have : s[p].toNat = 61 := by omega
                                               exact this)
  have e2 : s[p + 1] = 61 := UInt8.toNat_inj.1 (by have : s[p + 1].toNat = 61 := by omega
                                                   exact this)
  unfold signLen
  rw [drop_at s p (by omega), drop_at s (p + 1) h, e1, e2]
  rfl
theorem sign_one (s : ByteArray) (p : Nat) (h : p < s.size) (hn : ¬ ((s[p].toNat : Int) = 61 ∧ ∃ h2 : p + 1 < s.size, (s[p + 1].toNat : Int) = 61)) (hc : Tk.signs.contains s[p] = true) : signLen (s.data.toList.drop p) = 1 := by
  unfold signLen
  have hp : Lib.hasPrefix (s.data.toList.drop p) [61, 61] = false := by
    cases hq : Lib.hasPrefix (s.data.toList.drop p) [61, 61] with
    | false => rfl
    | true =>
      exfalso
      obtain ⟨r, hr⟩ := List.isPrefixOf_iff_prefix.1 hq
      rw [drop_at s p h] at hr
      simp only [List.cons_append, List.nil_append, List.cons.injEq] at hr
      obtain ⟨hr1, hr2⟩ := hr
      apply hn
      have hlt : p + 1 < s.size := by
        rcases Nat.lt_or_ge (p + 1) s.size with h' | h'
        · exact h'
        · rw [List.drop_of_length_le (by rw [← Lib.size_eq]; omega)] at hr2; cases hr2
      rw [drop_at s (p + 1) hlt] at hr2
      simp only [List.cons.injEq] at hr2
      refine ⟨by rw [← hr1]; rfl, hlt, by rw [← hr2.1]; rfl⟩
  rw [hp, head_drop s p h, if_neg (by simp), if_pos hc]
theorem sign_none (s : ByteArray) (p : Nat) (h : p < s.size) (hc : Tk.signs.contains s[p] = false) : signLen (s.data.toList.drop p) = 0 := by
  unfold signLen
  have hp : Lib.hasPrefix (s.data.toList.drop p) [61, 61] = false := by
    cases hq : Lib.hasPrefix (s.data.toList.drop p) [61, 61] with
    | false => rfl
    | true =>
      exfalso
      obtain ⟨r, hr⟩ := List.isPrefixOf_iff_prefix.1 hq
      rw [drop_at s p h] at hr
      simp only [List.cons_append, List.nil_append, List.cons.injEq] at hr
      rw [← hr.1] at hc
      exact absurd hc (by decide)
  rw [hp, head_drop s p h, if_neg (by simp), if_neg (by rw [hc]; simp)]
/-- The bytes that are signs. -/
theorem signs_cases (b : UInt8) : Tk.signs.contains b = true ↔ ((b.toNat : Int) = 40 ∨ (b.toNat : Int) = 41 ∨ (b.toNat : Int) = 123 ∨ (b.toNat : Int) = 125 ∨ (b.toNat : Int) = 44 ∨ (b.toNat : Int) = 59 ∨ (b.toNat : Int) = 43 ∨ (b.toNat : Int) = 45 ∨ (b.toNat : Int) = 42 ∨ (b.toNat : Int) = 60 ∨ (b.toNat : Int) = 61) := by
  have key : ∀ c : UInt8, (b = c ↔ (b.toNat : Int) = (c.toNat : Int)) := fun c => ⟨fun e => by rw [e], fun e => UInt8.toNat_inj.1 (by omega)⟩
  rw [List.contains_iff_mem]
  simp only [Tk.signs, List.mem_cons, List.not_mem_nil, or_false, key]
  rfl

theorem rel_step (l : List UInt8) (acc : List Tk.Tok) (p f : Nat) (A : Tk.Ans) (hl : p < l.length) (hnx : nx l p = p) (hA : Tk.tok (l.drop p) = A) (hc : A.code = 0) (HF : l.length - nx l p < f)
    (HR : Tk.scan l = Tk.comb acc (Tk.tl f (nx l p) (l.drop (nx l p)))) :
    0 < A.len ∧ p + A.len ≤ l.length ∧ ∃ f', l.length - nx l (p + A.len) < f' ∧ Tk.scan l = Tk.comb (acc ++ [⟨A.kind, p, (l.drop p).take A.len, A.n⟩]) (Tk.tl f' (nx l (p + A.len)) (l.drop (nx l (p + A.len)))) := by
  subst hA
  obtain ⟨h1, h2⟩ := Tk.tok_len _ hc
  rw [List.length_drop] at h2
  rw [hnx] at HF HR
  obtain ⟨g, rfl⟩ : ∃ g, f = g + 1 := ⟨f - 1, by omega⟩
  have hne : l.drop p ≠ [] := by
    intro e
    have := congrArg List.length e
    simp at this
    omega
  have h3 := Tk.comb_step acc (l.drop p) p g hne hc
  rw [List.drop_drop, List.drop_drop] at h3
  have e : p + ((Tk.tok (l.drop p)).len + Tk.skip false (l.drop (p + (Tk.tok (l.drop p)).len))) = nx l (p + (Tk.tok (l.drop p)).len) := by unfold nx; omega
  rw [e] at h3
  have h4 := nx_le l (p + (Tk.tok (l.drop p)).len) (by omega)
  exact ⟨h1, by omega, g, by omega, HR.trans h3⟩
theorem rel_bad (l : List UInt8) (acc : List Tk.Tok) (p f : Nat) (A : Tk.Ans) (hl : p < l.length) (hnx : nx l p = p) (hA : Tk.tok (l.drop p) = A) (hc : A.code ≠ 0) (HF : l.length - nx l p < f)
    (HR : Tk.scan l = Tk.comb acc (Tk.tl f (nx l p) (l.drop (nx l p)))) : Tk.scan l = ([], A.code, (p : Int)) := by
  subst hA
  rw [hnx] at HF HR
  obtain ⟨g, rfl⟩ : ∃ g, f = g + 1 := ⟨f - 1, by omega⟩
  have hne : l.drop p ≠ [] := by
    intro e
    have := congrArg List.length e
    simp at this
    omega
  rw [HR, Tk.tok_bad _ _ _ hne hc]
  simp [Tk.comb, hc]
theorem app_step {B : Nat} {R w2 w3 : World} {acc : List Tk.Tok} {v v' : Value} {o : Obj} (t : Tk.Tok) (HO2 : w2.ownsRow B 47 4 v acc.length (tcells acc)) (HB2 : Below B R w2) (hB : B ≤ w2.heap.size)
    (hown' : w3.ownsRow B 47 4 v' (acc.length + 1) (tcells acc ++ [.int .i64 t.kind, .int .i64 (t.at' : Int), .string (bs t.text), .int .i64 t.n])) (hgrow : (w2.alloc o).grownBy w3 v.ownBlock) :
    Hid (w3.ownsRow B 47 4 v' (acc ++ [t]).length (tcells (acc ++ [t]))) ∧ Hid (Below B R w3) := by
  constructor
  · show World.ownsRow _ _ _ _ _ _ _
    rw [tcells_app]
    simpa [tcells] using hown'
  · exact (HB2.alloc hB _).grown hgrow (by simp; omega) (fun j hj => (HO2.lt j hj).1)
end Go.Proofs.YtlipncdfmloijaaDoor

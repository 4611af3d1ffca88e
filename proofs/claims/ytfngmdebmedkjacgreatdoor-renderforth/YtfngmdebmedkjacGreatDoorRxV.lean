import Derived.Lib.ItoaLen
import Derived.Test.YtfngmdebmedkjacGreatDoorRxU
import Derived.Test.YtfngmdebmedkjacGreatDoorRxR
/- How long the text of a right program is at most. -/
namespace Go.Proofs.YtfngmdebmedkjacGreatDoor
open Go.RowKit

theorem Rn.isN_len {l : List UInt8} (h : Tk.isN l = true) : l.length ≤ 12 := by
  unfold Tk.isN at h
  simp only [Bool.and_eq_true, decide_eq_true_eq] at h
  exact h.1.1.1.2
theorem Rn.digs_len {z : Int} (h0 : 0 ≤ z) (h1 : z < 1000000000000000000) : (Rn.digs z).length ≤ 21 := Lib.itoa_length_le z (by omega) (by omega)
theorem Rn.brk_len (b : Bool) (x : List UInt8) : (Rn.brk b x).length ≤ x.length + 2 := by
  unfold Rn.brk
  cases b <;> simp
theorem Rn.sign_len (op : Int) : (Rn.sign op).length ≤ 4 := by
  unfold Rn.sign
  split
  · simp
  · split
    · simp
    · split
      · simp
      · split <;> simp
theorem Rn.xt_len (n : Nat) : ∀ (must : Nat) (d : Sx.Tr), Rn.xf n d = 0 → (Rn.xt n must d).length ≤ 30 * Rn.prt n d := by
  induction n with
  | zero => intro must d _; simp [Rn.xt]
  | succ n ih =>
    intro must d h
    rcases he : Sx.eH d with ⟨op, nm, z⟩
    have hx : Rn.xf (n + 1) d = if op < 1 ∨ 8 < op ∨ (Sx.eL d).length ≠ Rn.want op ∨ (z ≠ 0 ∧ op ≠ 1) ∨ (nm ≠ [] ∧ op ≠ 2) then (5 : Int)
      else if op = 2 ∧ Tk.isN nm = false then 4
      else if z < 0 ∨ 1000000000000000000 ≤ z then 3
      else Rn.firstOf (Rn.xf n) (Sx.eL d) := by simp only [Rn.xf, he]
    rw [hx] at h
    split at h
    · cases h
    rename_i hb
    split at h
    · cases h
    rename_i hn
    split at h
    · cases h
    rename_i hz
    have hs := Rn.firstOf_zero h
    have hl : (Sx.eL d).length = Rn.want op := Decidable.byContradiction fun hc => hb (.inr (.inr (.inl hc)))
    have e : Rn.xt (n + 1) must d = Rn.brk (decide (Rn.holds op < must)) (if op = 1 then Rn.digs z else if op = 2 then nm else if op = 3 then [45] ++ Rn.xt n 3 ((Sx.eL d).headD Sx.d0)
      else Rn.xt n (Rn.lft op) ((Sx.eL d).headD Sx.d0) ++ Rn.sign op ++ Rn.xt n (Rn.holds op + 1) ((Sx.eL d).tail.headD Sx.d0)) := by simp only [Rn.xt, he]
    rw [e]
    refine Nat.le_trans (Rn.brk_len _ _) ?_
    have hp : Rn.prt (n + 1) d = 1 + Sx.sum (Rn.prt n) (Sx.eL d) := by unfold Rn.prt; rw [Rn.wE_prt]; rfl
    rw [hp]
    generalize Sx.eL d = L at *
    by_cases h1 : op = 1
    · rw [if_pos h1]
      have := Rn.digs_len (z := z) (by omega) (by omega)
      omega
    rw [if_neg h1]
    by_cases h2 : op = 2
    · rw [if_pos h2]
      have hN : Tk.isN nm = true := by
        cases hh : Tk.isN nm with
        | true => rfl
        | false => exact absurd ⟨h2, hh⟩ hn
      have := Rn.isN_len hN
      omega
    rw [if_neg h2]
    by_cases h3 : op = 3
    · rw [if_pos h3]
      subst h3
      have hl1 : L.length = 1 := hl
      obtain ⟨d1, rfl⟩ := List.length_eq_one_iff.1 hl1
      have := ih 3 d1 (hs d1 (by simp))
      simp only [List.headD_cons, List.length_append, Sx.sum, List.length_cons, List.length_nil]
      omega
    · rw [if_neg h3]
      have hl2 : L.length = 2 := by rw [hl, Rn.want_op (by omega)]
      match L, hl2 with
      | [d1, d2], _ =>
        have a1 := ih (Rn.lft op) d1 (hs d1 (by simp))
        have a2 := ih (Rn.holds op + 1) d2 (hs d2 (by simp))
        have a3 := Rn.sign_len op
        simp only [List.headD_cons, List.tail_cons, List.length_append, Sx.sum]
        omega
theorem Rn.com_len {c : Nat} (l : List (List UInt8)) (h : ∀ s ∈ l, s.length ≤ c) : (Rn.com l).length ≤ l.length * (c + 2) := by
  induction l with
  | nil => simp [Rn.com]
  | cons a r ih =>
    have h1 := h a (by simp)
    have h2 := ih (fun s hs => h s (by simp [hs]))
    cases r with
    | nil => show a.length ≤ (0 + 1) * (c + 2); omega
    | cons b t =>
      show (a ++ [44, 32] ++ Rn.com (b :: t)).length ≤ _
      simp only [List.length_append, List.length_cons, List.length_nil] at h2 ⊢
      rw [Nat.add_mul (t.length + 1) 1]
      omega
theorem Rn.ahead_len {n : Nat} {D at' : Int} {A B T : List UInt8} {N : Int} {E body els : List Sx.Tr} (h : Rn.Okf n D A B T N E body els) : (Rn.ahead n (Sx.tS D at' A B T N E body els)).length ≤ 4000 := by
  have hA : A.length ≤ 12 := by
    cases hh : Rn.hasA D with
    | true => exact Rn.isN_len (h.naA hh)
    | false => rw [h.nilA hh]; simp
  have hB : B.length ≤ 12 := by
    cases hh : Rn.hasB D with
    | true => exact Rn.isN_len (h.naB hh)
    | false => rw [h.nilB hh]; simp
  have hT : (Rn.tyw T).length ≤ 20 := by have := Rn.tyw_len T; have := h.tl; omega
  have hN : (Rn.digs N).length ≤ 21 := Rn.digs_len h.n0 h.n1
  have hE : (Rn.com (E.map (Rn.xt n 0))).length ≤ 3700 := by
    have := Rn.com_len (c := 600) (E.map (Rn.xt n 0)) (by
      intro s hs
      obtain ⟨d, hd, rfl⟩ := List.mem_map.1 hs
      obtain ⟨i, hi⟩ := List.getElem?_of_mem hd
      have h1 := Rn.xt_len n 0 d (h.xs i d hi)
      have h2 := h.prt i d hi
      omega)
    rw [List.length_map] at this
    have h6 := h.few
    have : E.length * (600 + 2) ≤ 6 * 602 := Nat.mul_le_mul_right 602 h6
    omega
  have hd1 := h.d1
  have hd2 := h.d2
  clear h
  rcases Rn.kinds hd1 hd2 with rfl | rfl | rfl | rfl | rfl | rfl | rfl | rfl | rfl | rfl | rfl | rfl | rfl | rfl
  all_goals (simp [Rn.ahead, Sx.sH, Sx.tS, Sx.sE]; try omega)
theorem Rn.cat_len {g : Sx.Tr → List UInt8} {c : Sx.Tr → Nat} (l : List Sx.Tr) (h : ∀ t ∈ l, (g t).length ≤ c t) : (Rn.cat g l).length ≤ Sx.sum c l := by
  induction l with
  | nil => simp [Rn.cat, Sx.sum]
  | cons a r ih =>
    have h1 := h a (by simp)
    have h2 := ih (fun s hs => h s (by simp [hs]))
    simp only [Rn.cat, Sx.sum, List.length_append]
    omega
theorem Rn.sum_mul (f : Sx.Tr → Nat) (q : Nat) (l : List Sx.Tr) : Sx.sum (fun t => (1 + f t) * q) l = (l.length + Sx.sum f l) * q := by
  induction l with
  | nil => simp [Sx.sum]
  | cons a r ih =>
    simp only [Sx.sum, List.length_cons]
    rw [ih, ← Nat.add_mul]
    congr 1
    omega
theorem SL.at {w : World} {P : Nat → Prop} {n : Nat} {l : List Sx.Tr} {v : Value} (h : SL w P (n + 1) l v) {t : Sx.Tr} (ht : t ∈ l) : ∃ D at' A B T N E body els uB uL, t = Sx.tS D at' A B T N E body els ∧ SL w P n body uB ∧ SL w P n els uL := by
  obtain ⟨i, hi⟩ := List.getElem?_of_mem ht
  obtain ⟨a, cap, rfl⟩ := h.slice
  obtain ⟨b, off, D, at', A, B, T, N, E, body, els, uE, uB, uL, -, -, hd, -, -, -, -, -, -, -, -, -, -, hB, hL⟩ := h.nth i (List.getElem?_eq_some_iff.1 hi).1
  rw [hi] at hd
  cases hd
  exact ⟨D, at', A, B, T, N, E, body, els, uB, uL, rfl, hB, hL⟩
theorem Rn.blt_len (n : Nat) : ∀ (w : World) (P : Nat → Prop) (l : List Sx.Tr) (v : Value) (k Q : Nat), SL w P n l v → Rn.okB n l → 5000 + 3 * (k + n) ≤ Q → (Rn.blt n k l).length ≤ 3 + k + Sx.wS n l * Q := by
  induction n with
  | zero => intro w P l v k Q h; cases h
  | succ n ih =>
    intro w P l v k Q h ho hQ
    rw [Rn.blt_st]
    have hc := Rn.cat_len (g := Rn.st1 n (k + 1)) (c := fun d => (1 + (Sx.wE n (Sx.sE d) + Sx.wS n (Sx.sB d) + Sx.wS n (Sx.sO d))) * Q) l (by
      intro t ht
      obtain ⟨⟨deep, o1⟩, o2, o3⟩ := Rn.okB_each ho t ht
      obtain ⟨D, at', A, B, T, N, E, body, els, uB, uL, rfl, hB, hL⟩ := h.at ht
      have h1 := Rn.ahead_len (at' := at') (Rn.okf o1)
      have h2 := ih w P body uB (k + 1) Q hB o2 (by omega)
      have h3 := ih w P els uL (k + 1) Q hL o3 (by omega)
      show (Rn.tabs (k + 1) ++ Rn.ahead n (Sx.tS D at' A B T N E body els) ++ (if Rn.hasS D then Rn.blt n (k + 1) body ++ Rn.els1 n (k + 1) els else []) ++ [10]).length ≤ (1 + (Sx.wE n E + Sx.wS n body + Sx.wS n els)) * Q
      have h4 : (if Rn.hasS D then Rn.blt n (k + 1) body ++ Rn.els1 n (k + 1) els else []).length ≤ (Rn.blt n (k + 1) body).length + 6 + (Rn.blt n (k + 1) els).length := by
        split
        · rw [List.length_append]
          unfold Rn.els1
          split
          · simp; omega
          · simp only [List.length_append, List.length_cons, List.length_nil]; omega
        · simp
      simp only [List.length_append, Rn.tabs, List.length_replicate, List.length_cons, List.length_nil]
      rw [Nat.add_mul, Nat.add_mul, Nat.add_mul, Nat.one_mul]
      have h5 : 0 ≤ Sx.wE n E * Q := Nat.zero_le _
      omega)
    rw [Rn.sum_mul] at hc
    have e : Sx.wS (n + 1) l = l.length + Sx.sum (fun d => Sx.wE n (Sx.sE d) + Sx.wS n (Sx.sB d) + Sx.wS n (Sx.sO d)) l := rfl
    rw [e]
    simp only [List.length_append, Rn.tabs, List.length_replicate, List.length_cons, List.length_nil]
    omega
end Go.Proofs.YtfngmdebmedkjacGreatDoor


/- How long the text of a right program is at most: programs. -/
namespace Go.Proofs.YtfngmdebmedkjacGreatDoor
open Go.RowKit

theorem Rn.gf_each (n : Nat) (l : List Sx.Tr) : ∀ (i a b : Nat), Rn.gf n i a l = .inl b → ∀ g ∈ l, Rn.hf g = 0 ∧ Rn.okB n (Sx.gB g) := by
  induction l with
  | nil => intro i a b _ g hg; cases hg
  | cons d r ih =>
    intro i a b h g hg
    have h' : (if Rn.hf d ≠ 0 then .inr (Rn.hf d, -2 - (i : Int)) else Rn.thn (Rn.bf n 1 a (Sx.gB d)) fun b => Rn.gf n (i + 1) b r) = .inl b := h
    split at h'
    · cases h'
    · rename_i h1
      obtain ⟨c, h3, h4⟩ := Rn.thn_le h'
      rcases List.mem_cons.1 hg with rfl | hg
      · exact ⟨Decidable.byContradiction h1, ⟨_, _, _, h3⟩⟩
      · exact ih _ _ _ h4 g hg
theorem Rn.gf_ne (n : Nat) (l : List Sx.Tr) : ∀ (i a : Nat) (f : Int × Int), Rn.gf n i a l = .inr f → f.1 ≠ 0 := by
  induction l with
  | nil => intro i a f h; cases h
  | cons d r ih =>
    intro i a f h
    have h' : (if Rn.hf d ≠ 0 then .inr (Rn.hf d, -2 - (i : Int)) else Rn.thn (Rn.bf n 1 a (Sx.gB d)) fun b => Rn.gf n (i + 1) b r) = .inr f := h
    split at h'
    · rename_i h1; cases h'; exact h1
    · cases hx : Rn.bf n 1 a (Sx.gB d) with
      | inl b => rw [hx] at h'; exact ih _ _ _ h'
      | inr e => rw [hx] at h'; cases h'; exact Rn.bf_ne n _ _ _ _ hx
theorem Rn.pf_ok {n : Nat} {l : List Sx.Tr} (h : (Rn.pf n l).1 = 0) : Rn.pf n l = (0, 0) ∧ l ≠ [] ∧ l.length ≤ 10 ∧ ∀ g ∈ l, Rn.hf g = 0 ∧ Rn.okB n (Sx.gB g) := by
  by_cases h0 : l.length = 0
  · unfold Rn.pf at h; rw [if_pos h0] at h; cases h
  · by_cases h1 : 10 < l.length
    · unfold Rn.pf at h; rw [if_neg h0, if_pos h1] at h; cases h
    · rw [Rn.pf_mid h0 h1] at h ⊢
      cases hg : Rn.gf n 0 0 l with
      | inr f => rw [hg] at h; exact absurd h (Rn.gf_ne n l 0 0 f hg)
      | inl b => exact ⟨rfl, by intro e; rw [e] at h0; exact h0 rfl, by omega, Rn.gf_each n l 0 0 b hg⟩
theorem Rn.hf_ok {g : Sx.Tr} (h : Rn.hf g = 0) : (Sx.gN g).length ≤ 12 ∧ (Sx.gP g).length ≤ 6 ∧ ∀ p ∈ Sx.gP g, (Rn.par1 p).length ≤ 33 := by
  unfold Rn.hf at h
  split at h
  · cases h
  rename_i h1
  split at h
  · cases h
  rename_i h2
  have hN : Tk.isN (Sx.gN g) = true := by
    cases hh : Tk.isN (Sx.gN g) with
    | true => rfl
    | false => exact absurd hh h1
  refine ⟨Rn.isN_len hN, by omega, fun p hp => ?_⟩
  have h3 := Rn.firstOf_zero h p hp
  split at h3
  · cases h3
  rename_i h4
  split at h3
  · cases h3
  rename_i h5
  have hn : Tk.isN (Sx.pH p).1 = true := by
    cases hh : Tk.isN (Sx.pH p).1 with
    | true => rfl
    | false => exact absurd hh h4
  have ht : Rn.isT (Sx.pH p).2 3 = true := by
    cases hh : Rn.isT (Sx.pH p).2 3 with
    | true => rfl
    | false => exact absurd hh h5
  have a1 := Rn.isN_len hn
  unfold Rn.isT at ht
  simp only [Bool.and_eq_true, decide_eq_true_eq] at ht
  have a2 := Rn.tyw_len (Sx.pH p).2
  unfold Rn.par1
  simp only [List.length_append, List.length_cons, List.length_nil]
  omega
theorem Rn.pt_len {n : Nat} {w : World} {P : Nat → Prop} {l : List Sx.Tr} {a : Option Addr} {c : Nat} (h : Sl (RG w P n) w P l (.slice a l.length c)) (hN : Nm n l) (hl : l.length ≤ 10) (ho : ∀ g ∈ l, Rn.hf g = 0 ∧ Rn.okB n (Sx.gB g)) : (Rn.pt n l).length ≤ 100000000000000 := by
  have hc := Rn.cat_len (g := Rn.stt n) (c := fun _ => (1 + 0) * 10000000000000) l (by
    intro g hg
    obtain ⟨i, hi⟩ := List.getElem?_of_mem hg
    obtain ⟨b, off, nm, at', ps, body, uP, uB, -, -, hd, -, -, -, -, hP, hB⟩ := GL.nth h i (List.getElem?_eq_some_iff.1 hi).1
    rw [hi] at hd
    cases hd
    obtain ⟨h1, h2⟩ := ho _ hg
    obtain ⟨a1, a2, a3⟩ := Rn.hf_ok h1
    have a4 : Sx.wS n body ≤ 1000000 := hN.ws i _ hi
    have a5 := Rn.blt_len n w P body uB 0 4000000 hB h2 (by have := hN.lv; omega)
    have a6 : Sx.wS n body * 4000000 ≤ 1000000 * 4000000 := Nat.mul_le_mul_right _ a4
    have a7 := Rn.com_len (c := 33) (ps.map Rn.par1) (by
      intro s hs
      obtain ⟨p, hp, rfl⟩ := List.mem_map.1 hs
      exact a3 p hp)
    rw [List.length_map] at a7
    have a8 : ps.length * (33 + 2) ≤ 6 * 35 := Nat.mul_le_mul_right 35 a2
    have a9 : nm.length ≤ 12 := a1
    rw [Rn.stt_is]
    simp only [List.length_append, List.length_cons, List.length_nil]
    omega)
  rw [Rn.sum_mul] at hc
  have e : Sx.sum (fun _ => 0) l = 0 := by
    clear hc ho hl hN h
    induction l with
    | nil => rfl
    | cons a r ih => simp only [Sx.sum]; rw [ih]
  rw [e] at hc
  have : (l.length + 0) * 10000000000000 ≤ 10 * 10000000000000 := Nat.mul_le_mul_right _ (by omega)
  show (Rn.cat (Rn.stt n) l).length ≤ _
  omega
end Go.Proofs.YtfngmdebmedkjacGreatDoor

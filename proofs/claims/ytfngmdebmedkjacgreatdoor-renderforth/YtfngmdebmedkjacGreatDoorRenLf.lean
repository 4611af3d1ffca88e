import Derived.Test.YtfngmdebmedkjacGreatDoorRenLj
import Derived.Test.YtfngmdebmedkjacGreatDoorRzC
import Derived.Test.YtfngmdebmedkjacGreatDoorPlB
import Derived.Test.YtfngmdebmedkjacGreatDoorPlA
/- The law RenderForth: it answers true. -/
namespace Go.Proofs.YtfngmdebmedkjacGreatDoor
open Go.RowKit

theorem Rn.xf_nm (n : Nat) : ∀ d, Rn.xf n d = 0 → Rn.nmE n d := by
  induction n with
  | zero => intro d _; exact trivial
  | succ n ih =>
    intro d h
    rcases he : Sx.eH d with ⟨op, nm, z⟩
    have hx : Rn.xf (n + 1) d = if op < 1 ∨ 8 < op ∨ (Sx.eL d).length ≠ Rn.want op ∨ (z ≠ 0 ∧ op ≠ 1) ∨ (nm ≠ [] ∧ op ≠ 2) then (5 : Int)
      else if op = 2 ∧ Tk.isN nm = false then 4
      else if z < 0 ∨ 1000000000000000000 ≤ z then 3
      else Rn.firstOf (Rn.xf n) (Sx.eL d) := by simp only [Rn.xf, he]
    rw [hx] at h
    split at h
    · cases h
    rename_i hb
    split at h
    · cases h
    rename_i hn
    split at h
    · cases h
    have hs := Rn.firstOf_zero h
    refine ⟨?_, fun i x hx => ih x (hs x (List.mem_of_getElem? hx))⟩
    rw [he]
    show nm.length ≤ _
    by_cases h2 : op = 2
    · have hN : Tk.isN nm = true := by
        cases hh : Tk.isN nm with
        | true => rfl
        | false => exact absurd ⟨h2, hh⟩ hn
      have := Rn.isN_len hN
      omega
    · have : nm = [] := Decidable.byContradiction fun hc => hb (.inr (.inr (.inr (.inr ⟨hc, h2⟩))))
      rw [this]; simp
theorem Rn.nmS_ok (n : Nat) : ∀ (w : World) (P : Nat → Prop) (l : List Sx.Tr) (v : Value), SL w P n l v → Rn.okB n l → Rn.nmS n l := by
  induction n with
  | zero => intro w P l v h; cases h
  | succ n ih =>
    intro w P l v h ho i t ht
    have hm := List.mem_of_getElem? ht
    obtain ⟨⟨deep, o1⟩, o2, o3⟩ := Rn.okB_each ho t hm
    obtain ⟨D, at', A, B, T, N, E, body, els, uB, uL, rfl, hB, hL⟩ := h.at hm
    have f := Rn.okf o1
    have hA : A.length ≤ 12 := by
      cases hh : Rn.hasA D with
      | true => exact Rn.isN_len (f.naA hh)
      | false => rw [f.nilA hh]; simp
    have hB' : B.length ≤ 12 := by
      cases hh : Rn.hasB D with
      | true => exact Rn.isN_len (f.naB hh)
      | false => rw [f.nilB hh]; simp
    have hT := f.tl
    show A.length ≤ _ ∧ B.length ≤ _ ∧ T.length ≤ _ ∧ (∀ (j : Nat) x, E[j]? = some x → Rn.nmE n x) ∧ Rn.nmS n body ∧ Rn.nmS n els
    exact ⟨by omega, by omega, by omega, fun j x hx => Rn.xf_nm n x (f.xs j x hx), ih _ _ _ _ hB o2, ih _ _ _ _ hL o3⟩
theorem Rn.sum_most {f : Sx.Tr → Nat} {q : Nat} (l : List Sx.Tr) (h : ∀ d ∈ l, f d ≤ q) : Sx.sum f l ≤ l.length * q := by
  induction l with
  | nil => simp [Sx.sum]
  | cons a r ih =>
    have h1 := h a (by simp)
    have h2 := ih (fun d hd => h d (by simp [hd]))
    simp only [Sx.sum, List.length_cons]
    rw [Nat.add_mul]
    omega
theorem Rn.wE_six {n : Nat} {E : List Sx.Tr} (h6 : E.length ≤ 6) (hp : ∀ (i : Nat) d, E[i]? = some d → Rn.prt n d ≤ 20) : Sx.wE n E ≤ 120 := by
  have h1 := Rn.wE_le n (n + 1) E (by omega)
  rw [Rn.wE_prt] at h1
  have h2 := Rn.sum_most (f := Rn.prt n) (q := 20) E (fun d hd => by
    obtain ⟨i, hi⟩ := List.getElem?_of_mem hd
    exact hp i d hi)
  have : E.length * 20 ≤ 6 * 20 := Nat.mul_le_mul_right 20 h6
  omega
theorem Rn.wS_bf (n : Nat) : ∀ (w : World) (P : Nat → Prop) (l : List Sx.Tr) (v : Value) (deep a b : Nat), SL w P n l v → Rn.bf n deep a l = .inl b → Sx.wS n l + 121 * a ≤ 121 * b := by
  induction n with
  | zero => intro w P l v deep a b h; cases h
  | succ n ih =>
    intro w P l v deep a b h hb
    rw [Rn.bf_goS] at hb
    have hall : ∀ t ∈ l, ∃ D at' A B T N E body els uB uL, t = Sx.tS D at' A B T N E body els ∧ SL w P n body uB ∧ SL w P n els uL := fun t ht => h.at ht
    show l.length + Sx.sum (fun d => Sx.wE n (Sx.sE d) + Sx.wS n (Sx.sB d) + Sx.wS n (Sx.sO d)) l + 121 * a ≤ 121 * b
    clear h
    induction l generalizing a with
    | nil =>
      cases hb
      simp [Sx.sum]
    | cons t r ihl =>
      obtain ⟨c, h1, h2⟩ := Rn.thn_le (m := Rn.b1 n deep a t) (k := fun b => Rn.goS (Rn.b1 n deep) b r) hb
      have h3 := ihl c h2 (fun t ht => hall t (by simp [ht]))
      obtain ⟨D, at', A, B, T, N, E, body, els, uB, uL, rfl, hB, hL⟩ := hall t (by simp)
      unfold Rn.b1 at h1
      split at h1
      · cases h1
      split at h1
      · cases h1
      rename_i k1 k2
      obtain ⟨c1, h4, h5⟩ := Rn.thn_le h1
      have f := Rn.okf (Decidable.byContradiction k2)
      have h6 := Rn.wE_six f.few f.prt
      have h7 := ih w P body uB _ _ _ hB h4
      have h8 := ih w P els uL _ _ _ hL h5
      simp only [Sx.sum, List.length_cons]
      have e1 : Sx.wE n (Sx.sE (Sx.tS D at' A B T N E body els)) = Sx.wE n E := rfl
      have e2 : Sx.wS n (Sx.sB (Sx.tS D at' A B T N E body els)) = Sx.wS n body := rfl
      have e3 : Sx.wS n (Sx.sO (Sx.tS D at' A B T N E body els)) = Sx.wS n els := rfl
      rw [e1, e2, e3]
      omega
theorem Rn.wS_ok {n : Nat} {w : World} {P : Nat → Prop} {l : List Sx.Tr} {v : Value} (h : SL w P n l v) (ho : Rn.okB n l) : Sx.wS n l ≤ 36300 := by
  obtain ⟨deep, a, b, hb⟩ := ho
  have h1 := Rn.wS_bf n w P l v deep a b h hb
  cases n with
  | zero => cases h
  | succ n =>
    cases l with
    | nil => simp [Sx.wS, Sx.sum]
    | cons t r =>
      have ha : a < 300 := by
        rw [Rn.bf_goS] at hb
        obtain ⟨c, h2, -⟩ := Rn.thn_le (m := Rn.b1 n deep a t) (k := fun b => Rn.goS (Rn.b1 n deep) b r) hb
        unfold Rn.b1 at h2
        split at h2
        · cases h2
        · omega
      have := Rn.bf_le (n + 1) deep a b _ (by omega) hb
      omega
theorem Rn.hf_nm {g : Sx.Tr} (h : Rn.hf g = 0) : Rn.nmP (Sx.gP g) := by
  unfold Rn.hf at h
  split at h
  · cases h
  split at h
  · cases h
  intro i p hp
  have h3 := Rn.firstOf_zero h p (List.mem_of_getElem? hp)
  split at h3
  · cases h3
  rename_i h4
  split at h3
  · cases h3
  rename_i h5
  have hn : Tk.isN (Sx.pH p).1 = true := by
    cases hh : Tk.isN (Sx.pH p).1 with
    | true => rfl
    | false => exact absurd hh h4
  have ht : Rn.isT (Sx.pH p).2 3 = true := by
    cases hh : Rn.isT (Sx.pH p).2 3 with
    | true => rfl
    | false => exact absurd hh h5
  have a1 := Rn.isN_len hn
  unfold Rn.isT at ht
  simp only [Bool.and_eq_true, decide_eq_true_eq] at ht
  omega
/-- What is parsed is not too great, and has nothing wrong; it lies at a low level. -/
theorem parsed_nm {x : List UInt8} {l : List Sx.Tr} {s : Sx.St} {r : List Tk.Tok} (h : Sx.parsed x = .inl (l, s, r)) {w : World} {P : Nat → Prop} {m : Nat} {v : Value} (hS : Sl (RG w P m) w P l v) :
    Nm 1000002 l ∧ Rn.pf 1000002 l = (0, 0) ∧ ∀ (w' : World) (P' : Nat → Prop) (v' : Value), Sl (RG w' P' m) w' P' l v' → Sl (RG w' P' 1000002) w' P' l v' := by
  have hp : ∀ n, 30 ≤ n → Rn.pf n l = (0, 0) := by
    unfold Sx.parsed Sx.parse at h
    split at h
    · cases h
    · exact fun n hn => Rb.parsed_pf _ _ _ _ _ _ _ h n hn
  have hN := GL.raise hS (m := m + 1000003) (by omega)
  have hm := hN.mem
  have en : min (m + 1000003) 1000002 = 1000002 := by omega
  obtain ⟨-, -, p3, p4⟩ := Rn.pf_ok (n := m + 1000003) (l := l) (by rw [hp (m + 1000003) (by omega)])
  generalize hNm : m + 1000003 = N at *
  have hb : ∀ d ∈ l, Sx.wS N (Sx.gB d) ≤ 36300 ∧ Rn.nmS N (Sx.gB d) := fun d hd => by
    obtain ⟨c, nm, at', ps, body, uP, uB, rfl, h2, h3, h4⟩ := hm d hd
    exact ⟨Rn.wS_ok h4 (p4 _ hd).2, Rn.nmS_ok N w P body uB h4 (p4 _ hd).2⟩
  have hs : Sm N l := by
    refine ⟨by omega, fun i d hd => ?_, ?_⟩
    · have := (Rn.hf_ok (p4 d (List.mem_of_getElem? hd)).1).2.1
      omega
    · have := Rn.sum_most (f := fun d => Sx.wS N (Sx.gB d)) (q := 36300) l (fun d hd => (hb d hd).1)
      have : l.length * 36300 ≤ 10 * 36300 := Nat.mul_le_mul_right 36300 p3
      show Sx.sum (fun d => Sx.wS N (Sx.gB d)) l ≤ 1000000
      omega
  have hg : ∀ (i : Nat) d, l[i]? = some d → Gnm N d := fun i d hd => by
    have hd' := List.mem_of_getElem? hd
    have := (Rn.hf_ok (p4 d hd').1).1
    exact ⟨by omega, Rn.hf_nm (p4 d hd').1, (hb d hd').2⟩
  obtain ⟨a, b⟩ := lower_GL hs hg
  rw [en] at a b
  exact ⟨a, hp _ (by omega), fun w' P' v' h' => b w' P' v' (GL.raise h' (by omega))⟩
theorem Rn.told_of {n : Nat} {l : List Sx.Tr} (h : Rn.pf n l = (0, 0)) : Rn.told n l = if 12000 < (Rn.pt n l).length then (1, -1) else (0, 0) := by
  unfold Rn.told
  rw [h]
  rfl
theorem parsed_ne {l : List UInt8} (hl : l.length ≤ 12000) {c p : Int} {r : List Tk.Tok} (h : Sx.parsed l = .inr (c, p, r)) : c ≠ 0 := by
  unfold Sx.parsed Sx.parse at h
  split at h
  · rename_i hc
    simp only [Sum.inr.injEq, Prod.mk.injEq] at h
    obtain ⟨rfl, -, -⟩ := h
    simpa using hc
  · have := Sx.inn_prog l.length 72001 12001 (Tk.scan l).1 (Tk.scan_places l hl)
    rw [h] at this
    exact this.1

set_option maxRecDepth 100000 in
set_option maxHeartbeats 2000000 in
theorem forth_any (s : ByteArray) (w : World) (hT : Tb w) (hs : s.size ≤ maxLen) :
    Calls Tryz.prog 5 #[.string s] w fun e w' => e = .returned (.bool true) ∧ Kp [] w w' := by
  unfold maxLen at hs
  have HT := hide hT
  clear hT
  by_cases h12 : 12000 < s.size
  · have d2 : decide ((12000 : Int) < (s.size : Int)) = true := by simp; omega
    go_enter Tryz.func5, Tryz.ntmps5
    go_wp2_with fail
    refine (rbegun_any _ HT.out).mono ?_
    rintro e w1 ⟨rfl, hk1⟩
    go_wp2
    all_goals
      go_ret
      exact ⟨rfl, hk1⟩
  have d2 : decide ((12000 : Int) < (s.size : Int)) = false := by simp; omega
  have HZ := hide (Lib.size_eq s)
  go_enter Tryz.func5, Tryz.ntmps5
  go_wp2_with fail
  refine (rbegun_any _ HT.out).mono ?_
  rintro e w1 ⟨rfl, hk1⟩
  have K1 := hide hk1
  clear hk1
  go_wp2_with fail
  refine (parse_text s _ (HT.out.kp K1.out).words (by omega)).mono ?_
  intro e w2 hp
  rcases hm : Sx.parsed s.data.toList with ⟨l, st, r⟩ | ⟨code, p, r⟩
  rotate_left
  · rw [hm] at hp
    obtain ⟨rfl, hk⟩ := hp
    have hc := parsed_ne (by have := HZ.out; omega) hm
    have q1 : (code != 0) = true := by simpa using hc
    have K2 := hide (K1.out.trans hk)
    clear hk hc hm
    go_wp2
    go_ret
    exact ⟨rfl, (K2.out.alloc _).alloc _⟩
  rw [hm] at hp
  obtain ⟨m, a, cap, rfl, hS, hk⟩ := hp
  have K2 := hide (K1.out.trans hk)
  obtain ⟨hN, hpf, hlow⟩ := parsed_nm hm hS
  have htold := Rn.told_of hpf
  have HC : Hid (∀ w', Kp [] w2 w' → Calls Tryz.prog 11 #[.agg #[.slice a l.length cap]] w' fun e w'' => e = .returned (.tuple #[.string (bs (Rn.ptx 1000002 l)), .agg #[.int .i64 (Rn.told 1000002 l).1, .int .i64 (Rn.told 1000002 l).2]]) ∧ Kp [] w' w'') :=
    hide (fun w' k => print_any 1000002 w' _ l a cap (HT.out.kp (K2.out.trans k)) (hlow _ _ _ (GL.kept hS k)) hN)
  have PB := hide (parsed_back 1000002 (by omega) l)
  have EX : Hid (Rn.ptx 1000002 l = if (Rn.told 1000002 l).1 ≠ 0 then [] else Rn.pt 1000002 l) := rfl
  have ES : Hid (∀ l', Sx.sameG (1000002 + 1) l l' = true → Rn.pt 1000002 l = Rn.pt 1000002 l') := hide (fun l' h => Rb.pt_same 1000002 l l' h)
  clear hS hk hN hpf hlow hm
  by_cases hlen : 12000 < (Rn.pt 1000002 l).length
  · rw [if_pos hlen] at htold
    rw [htold] at HC
    clear PB EX ES htold hlen
    generalize Rn.ptx 1000002 l = Y at *
    go_wp2_with fail
    refine (HC.out _ (((Kp.refl [] _).alloc _).alloc _)).mono ?_
    rintro e w3 ⟨rfl, hk3⟩
    have K3 : Hid (Kp [] w w3) := hide (K2.out.trans ((((Kp.refl [] w2).alloc _).alloc _).trans hk3))
    clear hk3 HC
    go_wp2
    go_ret
    exact ⟨rfl, K3.out.alloc _⟩
  rw [if_neg hlen] at htold
  obtain ⟨hl2, l', s', hp2, hsm⟩ := PB.out (by rw [htold])
  have eY : Rn.ptx 1000002 l = Rn.pt 1000002 l := by rw [EX.out, htold]; rfl
  have eQ : Rn.pt 1000002 l = Rn.pt 1000002 l' := ES.out l' (hsm _)
  rw [htold, eY] at HC
  have HP2 := hide hp2
  have HQ := hide eQ
  have HL2 := hide hl2
  clear PB EX ES htold hlen hp2 hsm eY eQ hl2
  generalize Rn.pt 1000002 l = Y at *
  have hsz : (bs Y).size ≤ 12000 := by rw [bsz]; exact HL2.out
  go_wp2_with fail
  refine (HC.out _ (((Kp.refl [] _).alloc _).alloc _)).mono ?_
  rintro e w3 ⟨rfl, hk3⟩
  have K3 : Hid (Kp [] w w3) := hide (K2.out.trans ((((Kp.refl [] w2).alloc _).alloc _).trans hk3))
  clear hk3 HC
  go_wp2_with fail
  refine (parse_text (bs Y) _ (HT.out.kp (K3.out.alloc _)).words hsz).mono ?_
  intro e w4 hp
  rw [bs_list, HP2.out] at hp
  obtain ⟨m4, a4, cap4, rfl, hS4, hk4⟩ := hp
  have K4 := hide ((K3.out.alloc _).trans hk4)
  obtain ⟨hN4, hpf4, hlow4⟩ := parsed_nm HP2.out hS4
  have htold4 := Rn.told_of hpf4
  rw [← HQ.out, if_neg (by have := HL2.out; omega)] at htold4
  have eY4 : Rn.ptx 1000002 l' = Y := by
    show (if (Rn.told 1000002 l').1 ≠ 0 then [] else Rn.pt 1000002 l') = Y
    rw [htold4, ← HQ.out]
    rfl
  have HC4 : Hid (∀ w', Kp [] w4 w' → Calls Tryz.prog 11 #[.agg #[.slice a4 l'.length cap4]] w' fun e w'' => e = .returned (.tuple #[.string (bs Y), .agg #[.int .i64 0, .int .i64 0]]) ∧ Kp [] w' w'') :=
    hide (fun w' k => by
      have := print_any 1000002 w' _ l' a4 cap4 (HT.out.kp (K4.out.trans k)) (hlow4 _ _ _ (GL.kept hS4 k)) hN4
      rw [htold4, eY4] at this
      exact this)
  clear hS4 hk4 hN4 hpf4 hlow4 htold4 eY4 HP2 HQ HL2
  go_wp2_with fail
  refine (HC4.out _ (((Kp.refl [] _).alloc _).alloc _)).mono ?_
  rintro e w5 ⟨rfl, hk5⟩
  have k5 : Kp [] w4 w5 := (((Kp.refl [] w4).alloc _).alloc _).trans hk5
  have K5 : Hid (Kp [] w w5) := hide (K4.out.trans k5)
  have v0 : w5.cell? ⟨w4.heap.size + 1, 0, none⟩ = some (.int .i64 0) := hk5.some (by simp [go_sem]) (by simp)
  have hb5 := World.block_lt_of_cell? _ _ v0
  clear hk5 k5 HC4
  go_wp2
  go_ret
  exact ⟨rfl, K5.out.alloc _⟩
end Go.Proofs.YtfngmdebmedkjacGreatDoor

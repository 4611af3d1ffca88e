import Derived.Test.YtfngmdebmedkjacGreatDoorSnA
/- Contracts of the reader's small methods: what must stand there; the next token. -/
namespace Go.Proofs.YtfngmdebmedkjacGreatDoor
open Go.RowKit

theorem txt_lt {c : Cx} {n : Nat} {x : List UInt8} (h : Sx.txt (c.full.drop n) = x) (hx : x ≠ []) : n < c.full.length := by
  rcases Nat.lt_or_ge n c.full.length with h1 | h1
  · exact h1
  · rw [List.drop_eq_nil_of_le h1] at h
    exact absurd h.symm hx

set_option maxHeartbeats 400000 in
theorem skip_any (x : ByteArray) (hx : x.data.toList ≠ []) (c : Cx) (w : World) (n : Nat) (s : Sx.St) (h : RD c w n s) :
    Calls Tryz.prog 140 #[.pointer (some ⟨c.rb, 0, none⟩), .string x] w (Post c [c.rb] w encU (Sx.skp c.e x.data.toList s (c.full.drop n))) := by
  have HO := hide (sees_any x c w n s h)
  have HU := hide (fun w h => unfit_any c w n s h)
  have HH := hide h
  by_cases ht : Sx.txt (c.full.drop n) = x.data.toList
  · have hlt := txt_lt ht hx
    have HP : Hid (Sx.skp c.e x.data.toList s (c.full.drop n) = .inl ((), s, c.full.drop (n + 1))) := by
      show _ = _
      unfold Sx.skp
      rw [if_pos ht]; simp
    have HD : Hid (decide (Sx.txt (c.full.drop n) = x.data.toList) = true) := decide_eq_true ht
    have c1 := h.c1
    have fz := h.fz 1
    have hm := h.hm
    clear h ht hx
    go_enter Tryz.func140, Tryz.ntmps140
    go_wp2_with fail
    refine HO.out.mono ?_
    rintro e w1 ⟨rfl, k, rfl⟩
    rw [HD.out]
    go_wp2
    rw [HP.out]
    go_end0
    exact ⟨_, n + 1, rfl, rfl, rfl, (HH.out.drewN k).step hlt, ((Kp.refl _ _).drewN k).setCell (by simp) _⟩
  · have HP : Hid (Sx.skp c.e x.data.toList s (c.full.drop n) = .inr (Sx.ucode (c.full.drop n), Sx.place c.e (c.full.drop n), c.full.drop n)) := by
      show _ = _
      unfold Sx.skp
      rw [if_neg ht]; rfl
    have HD : Hid (decide (Sx.txt (c.full.drop n) = x.data.toList) = false) := decide_eq_false ht
    clear h ht hx
    go_enter Tryz.func140, Tryz.ntmps140
    go_wp2_with fail
    refine HO.out.mono ?_
    rintro e w1 ⟨rfl, k, rfl⟩
    rw [HD.out]
    go_wp2_with fail
    refine (HU.out _ (HH.out.drewN k)).mono ?_
    rintro e w2 ⟨rfl, hb⟩
    go_wp2
    rw [HP.out]
    exact ⟨rfl, rfl, ((Kp.refl _ _).drewN k).trans (Kp.of_below hb)⟩

theorem over_no {c : Cx} {w : World} {n : Nat} {s : Sx.St} {b : Bool} (hE : (c.full.drop n).isEmpty = b) (h : RD c w n s) :
    Calls Tryz.prog 103 #[.pointer (some ⟨c.rb, 0, none⟩)] w fun e w' => e = .returned (.bool b) ∧ ∃ k, w' = w.drewN k := by
  have := over_any c w n s h
  rwa [hE] at this

set_option maxHeartbeats 400000 in
theorem seesKind_any (k : Int) (c : Cx) (w : World) (n : Nat) (s : Sx.St) (h : RD c w n s) :
    Calls Tryz.prog 188 #[.pointer (some ⟨c.rb, 0, none⟩), .int .i64 k] w fun e w' => e = .returned (.bool (Sx.hasKind k (c.full.drop n))) ∧ ∃ k, w' = w.drewN k := by
  have HH := hide h
  by_cases hlt : n < c.full.length
  · obtain ⟨t, ht, hd⟩ := drop_cons c.full n hlt
    obtain ⟨ha, _⟩ := h.ne (fun e => by rw [e] at hlt; simp at hlt)
    have HE : Hid ((c.full.drop n).isEmpty = false) := by rw [hd]; rfl
    have HP : Hid (Sx.hasKind k (c.full.drop n) = (t.kind == k)) := by rw [hd]; rfl
    obtain ⟨k0, _, _, _, _⟩ := h.tk n t ht
    have c0 := h.c0
    have c1 := h.c1
    clear h hd ht
    rw [ha] at c0
    clear ha
    go_enter Tryz.func188, Tryz.ntmps188
    go_wp2
    go_quiet ((go_at_call 103; exact Calls.quiet_of (over_no HE.out (HH.out.drewN _))))
    go_wp2
    go_ret
    rw [HP.out]
    exact ⟨rfl, _, rfl⟩
  · have hd := drop_last c.full n h.hn hlt
    have HE : Hid ((c.full.drop n).isEmpty = true) := by rw [hd]; rfl
    have HP : Hid (Sx.hasKind k (c.full.drop n) = false) := by rw [hd]; rfl
    clear h hd
    go_enter Tryz.func188, Tryz.ntmps188
    go_wp2
    go_quiet ((go_at_call 103; exact Calls.quiet_of (over_no HE.out (HH.out.drewN _))))
    go_wp2
    go_ret
    rw [HP.out]
    exact ⟨rfl, _, rfl⟩

def encK (_ : World) (t : Tk.Tok) (v : Value) : Prop := v = .agg #[.int .i64 t.kind, .int .i64 (t.at' : Int), .string (bs t.text), .int .i64 t.n]

set_option maxHeartbeats 1000000 in
theorem tokenOf_any (k : Int) (c : Cx) (w : World) (n : Nat) (s : Sx.St) (h : RD c w n s) :
    Calls Tryz.prog 168 #[.pointer (some ⟨c.rb, 0, none⟩), .int .i64 k] w (Post c [c.rb] w encK (Sx.tokOf c.e k s (c.full.drop n))) := by
  have HO := hide (fun w h => seesKind_any k c w n s h)
  have HU := hide (fun w h => unfit_any c w n s h)
  have HH := hide h
  cases hk : Sx.hasKind k (c.full.drop n) with
  | true =>
    have hlt : n < c.full.length := by
      rcases Nat.lt_or_ge n c.full.length with h1 | h1
      · exact h1
      · rw [List.drop_eq_nil_of_le h1] at hk; cases hk
    obtain ⟨t, ht, hd⟩ := drop_cons c.full n hlt
    have HP : Hid (Sx.tokOf c.e k s (c.full.drop n) = .inl (t, s, c.full.drop (n + 1))) := by
      show _ = _
      rw [hd] at hk ⊢
      simp only [Sx.hasKind] at hk
      simp only [Sx.tokOf, hk, if_true]
    obtain ⟨ha, hne⟩ := h.ne (fun e => by rw [e] at hlt; simp at hlt)
    have HK := hide hk
    obtain ⟨k0, k1, k2, k3, _⟩ := h.tk n t ht
    have c0 := h.c0
    have c1 := h.c1
    have fz := h.fz 1
    have hm := h.hm
    have hr := h.rlt
    have htb : c.tb < w.heap.size := World.block_lt_of_cell? w _ k0
    have htb' : ¬ c.tb = w.heap.size := by omega
    have hne' : c.rb ≠ c.tb := fun e => hne e.symm
    clear h hd ht hk
    rw [ha] at c0
    clear ha
    go_enter Tryz.func168, Tryz.ntmps168
    go_wp2_with fail
    refine (HO.out _ ?_).mono ?_
    · exact HH.out.keep (Kp.of_below (S := []) ((Below.refl _ _).alloc (Nat.le_refl _) _)) (by simp) (by simp)
    rintro e w1 ⟨rfl, k, rfl⟩
    rw [HK.out]
    go_wp2
    go_region
    go_wp2
    have HB := HH.out.lt
    refine bodyPost_ret (v := .agg #[.int .i64 t.kind, .int .i64 (t.at' : Int), .string (bs t.text), .int .i64 t.n]) (by simp [results, Tryz.results168, go_sem]) rfl ?_
    rw [HP.out]
    refine ⟨_, n + 1, rfl, rfl, rfl, ?_, ?_⟩
    · exact (((((((HH.out.alloc _).drewN k).step hlt).set_new HB (Nat.le_refl _) _).set_new HB (Nat.le_refl _) _).set_new HB (Nat.le_refl _) _).set_new HB (Nat.le_refl _) _).drew
    · refine Kp.drew (Kp.nb (Kp.nb (Kp.nb (Kp.nb ?_ (Nat.le_refl _) _ _) (Nat.le_refl _) _ _) (Nat.le_refl _) _ _) (Nat.le_refl _) _ _)
      refine Kp.rb ?_ _ _
      exact ((Kp.refl _ _).alloc _).drewN k
  | false =>
    have HP : Hid (Sx.tokOf c.e k s (c.full.drop n) = .inr (Sx.ucode (c.full.drop n), Sx.place c.e (c.full.drop n), c.full.drop n)) := by
      show _ = _
      generalize c.full.drop n = ts at *
      cases ts with
      | nil => rfl
      | cons t r =>
        simp only [Sx.hasKind] at hk
        simp only [Sx.tokOf, hk]
        rfl
    have HK := hide hk
    clear h hk
    go_enter Tryz.func168, Tryz.ntmps168
    go_wp2_with fail
    refine (HO.out _ ?_).mono ?_
    · exact HH.out.keep (Kp.of_below (S := []) ((Below.refl _ _).alloc (Nat.le_refl _) _)) (by simp) (by simp)
    rintro e w1 ⟨rfl, k, rfl⟩
    rw [HK.out]
    go_wp2_with fail
    refine (HU.out _ ?_).mono ?_
    · exact (HH.out.keep (Kp.of_below (S := []) ((Below.refl _ _).alloc (Nat.le_refl _) _)) (by simp) (by simp)).drewN k
    rintro e w2 ⟨rfl, hb⟩
    go_wp2
    rw [HP.out]
    exact ⟨rfl, rfl, (((Kp.refl _ _).alloc _).drewN k).trans (Kp.of_below hb)⟩

theorem field_text (a b d : Value) (x : Value) (w : World) : (Instr.field 118 (.agg #[a, b, x, d]) 2).run Tryz.prog w = .ok x w := by kernel_rfl
theorem field_n (a b d : Value) (x : Value) (w : World) : (Instr.field 118 (.agg #[a, b, d, x]) 3).run Tryz.prog w = .ok x w := by kernel_rfl
set_option maxRecDepth 100000 in
set_option maxHeartbeats 400000 in
theorem name_of (c : Cx) (w : World) (n : Nat) (s : Sx.St) (h : RD c w n s) :
    Calls Tryz.prog 141 #[.pointer (some ⟨c.rb, 0, none⟩)] w (Post c [c.rb] w encT (Sx.nameOf c.e s (c.full.drop n))) := by
  have HO := hide (tokenOf_any 2 c w n s h)
  unfold Sx.nameOf
  clear h
  generalize Sx.tokOf c.e 2 s (c.full.drop n) = m at *
  go_enter Tryz.func141, Tryz.ntmps141
  go_wp2_with fail
  refine HO.out.mono ?_
  intro e w1 hp
  rcases m with ⟨t, s1, r1⟩ | ⟨code, p, rest⟩
  · obtain ⟨v, n1, rfl, hv, hr, hd, hk⟩ := hp
    unfold encK at hv
    rw [hv]
    have HR := hide hr
    have HD := hide hd
    clear hv hr hd
    have hfd := field_text (.int .i64 t.kind) (.int .i64 (t.at' : Int)) (.int .i64 t.n) (.string (bs t.text))
    go_wp2
    go_ret
    exact ⟨_, n1, rfl, rfl, HR.out, HD.out, hk⟩
  · obtain ⟨rfl, hk⟩ := hp
    exact ⟨rfl, rfl, hk⟩
set_option maxRecDepth 100000 in
set_option maxHeartbeats 400000 in
theorem number_of (c : Cx) (w : World) (n : Nat) (s : Sx.St) (h : RD c w n s) :
    Calls Tryz.prog 206 #[.pointer (some ⟨c.rb, 0, none⟩)] w (Post c [c.rb] w encN (Sx.numOf c.e s (c.full.drop n))) := by
  have HO := hide (tokenOf_any 3 c w n s h)
  unfold Sx.numOf
  clear h
  generalize Sx.tokOf c.e 3 s (c.full.drop n) = m at *
  go_enter Tryz.func206, Tryz.ntmps206
  go_wp2_with fail
  refine HO.out.mono ?_
  intro e w1 hp
  rcases m with ⟨t, s1, r1⟩ | ⟨code, p, rest⟩
  · obtain ⟨v, n1, rfl, hv, hr, hd, hk⟩ := hp
    unfold encK at hv
    rw [hv]
    have HR := hide hr
    have HD := hide hd
    clear hv hr hd
    have hfd := field_n (.int .i64 t.kind) (.int .i64 (t.at' : Int)) (.string (bs t.text)) (.int .i64 t.n)
    go_wp2
    go_ret
    exact ⟨_, n1, rfl, rfl, HR.out, HD.out, hk⟩
  · obtain ⟨rfl, hk⟩ := hp
    exact ⟨rfl, rfl, hk⟩

set_option maxHeartbeats 400000 in
theorem enter_any (c : Cx) (w : World) (n : Nat) (s : Sx.St) (h : RD c w n s) (hlt : n < c.full.length) :
    Calls Tryz.prog 218 #[.pointer (some ⟨c.rb, 0, none⟩)] w (Post c [c.rb] w encU (Sx.ent c.e s (c.full.drop n))) := by
  have HF := hide (fault_any 7 c w n s h)
  have HH := hide h
  have c1 := h.c1
  have c5 := h.c5
  have f1 := h.fz 1
  have f5 := h.fz 5
  have hm := h.hm
  have b5 := h.b5
  by_cases h60 : s.opn = 60
  · have HP : Hid (Sx.ent c.e s (c.full.drop n) = .inr (7, Sx.place c.e (c.full.drop n), c.full.drop n)) := by
      show _ = _
      unfold Sx.ent
      rw [if_pos h60]; rfl
    rw [h60] at c5
    clear h60
    go_enter Tryz.func218, Tryz.ntmps218
    go_wp2_with fail
    refine HF.out.mono ?_
    rintro e w2 ⟨rfl, hb⟩
    go_wp2
    rw [HP.out]
    exact ⟨rfl, rfl, Kp.of_below hb⟩
  · have HP : Hid (Sx.ent c.e s (c.full.drop n) = .inl ((), { s with opn := s.opn + 1 }, c.full.drop (n + 1))) := by
      show _ = _
      unfold Sx.ent
      rw [if_neg h60]; simp
    have d1 : ((s.opn : Int) == 60) = false := by simp; omega
    have hl : s.opn < 60 := by omega
    clear h60 h
    go_enter Tryz.func218, Tryz.ntmps218
    go_wp2
    rw [HP.out]
    go_end0
    refine ⟨_, n + 1, rfl, rfl, rfl, (HH.out.ent hl).step hlt, ?_⟩
    refine Kp.rb ?_ _ _
    refine Kp.rb ?_ _ _
    exact Kp.refl _ _
end Go.Proofs.YtfngmdebmedkjacGreatDoor
/- Expressions in memory. -/
namespace Go.Proofs.YtfngmdebmedkjacGreatDoor
open Go.RowKit

/-- A list of expressions: a slice; each four cells, in blocks of which P holds. -/
def EL (w : World) (P : Nat → Prop) : Nat → List Sx.Tr → Value → Prop
  | 0, _, _ => False
  | n + 1, l, v => ∃ a cap, v = .slice a l.length cap ∧ (l = [] ∨ ∃ b off, a = some ⟨b, off, none⟩ ∧ P b ∧ ∀ (i : Nat) d, l[i]? = some d → ∃ op nm k L u,
      d = Sx.tE op nm k L ∧ w.cell? ⟨b, off + i * 4, none⟩ = some (.int .i64 op) ∧ w.cell? ⟨b, off + i * 4 + 1, none⟩ = some (.string (bs nm)) ∧
        w.cell? ⟨b, off + i * 4 + 2, none⟩ = some (.int .i64 k) ∧ w.cell? ⟨b, off + i * 4 + 3, none⟩ = some u ∧ EL w P n L u)
theorem EL.slice {w : World} {P : Nat → Prop} {n : Nat} {l : List Sx.Tr} {v : Value} (h : EL w P n l v) : ∃ a cap, v = .slice a l.length cap := by
  cases n with
  | zero => cases h
  | succ n => obtain ⟨a, cap, hv, _⟩ := h; exact ⟨a, cap, hv⟩
theorem EL.keep {w w' : World} {S : List Nat} {P : Nat → Prop} {n : Nat} {l : List Sx.Tr} {v : Value} (h : EL w P n l v) (hk : Kp S w w') (hS : ∀ k, k ∈ S → ¬ P k) : EL w' P n l v := by
  induction n generalizing l v with
  | zero => cases h
  | succ n ih =>
    obtain ⟨a, cap, hv, h⟩ := h
    refine ⟨a, cap, hv, h.imp id ?_⟩
    rintro ⟨b, off, ha, hB, hc⟩
    refine ⟨b, off, ha, hB, fun i d hd => ?_⟩
    obtain ⟨op, nm, k, L, u, h1, h2, h3, h4, h5, h6⟩ := hc i d hd
    have hn : b ∉ S := fun hm => hS b hm hB
    exact ⟨op, nm, k, L, u, h1, hk.some h2 hn, hk.some h3 hn, hk.some h4 hn, hk.some h5 hn, ih h6⟩
theorem EL.base {w : World} {P P' : Nat → Prop} {n : Nat} {l : List Sx.Tr} {v : Value} (h : EL w P n l v) (hP : ∀ b, b < w.heap.size → P b → P' b) : EL w P' n l v := by
  induction n generalizing l v with
  | zero => cases h
  | succ n ih =>
    obtain ⟨a, cap, hv, h⟩ := h
    refine ⟨a, cap, hv, ?_⟩
    rcases h with h | ⟨b, off, ha, hb, hc⟩
    · exact .inl h
    · cases l with
      | nil => exact .inl rfl
      | cons d0 l0 =>
        refine .inr ⟨b, off, ha, ?_, fun i d hd => ?_⟩
        · obtain ⟨op, nm, k, L, u, h1, h2, _⟩ := hc 0 d0 rfl
          exact hP b (World.block_lt_of_cell? w _ h2) hb
        · obtain ⟨op, nm, k, L, u, h1, h2, h3, h4, h5, h6⟩ := hc i d hd
          exact ⟨op, nm, k, L, u, h1, h2, h3, h4, h5, ih h6⟩
theorem EL.more {w : World} {P : Nat → Prop} {n : Nat} {l : List Sx.Tr} {v : Value} (m : Nat) (h : EL w P n l v) : EL w P (n + m) l v := by
  induction n generalizing l v with
  | zero => cases h
  | succ n ih =>
    rw [show n + 1 + m = n + m + 1 from by omega]
    obtain ⟨a, cap, hv, h⟩ := h
    refine ⟨a, cap, hv, h.imp id ?_⟩
    rintro ⟨b, off, ha, hb, hc⟩
    refine ⟨b, off, ha, hb, fun i d hd => ?_⟩
    obtain ⟨op, nm, k, L, u, h1, h2, h3, h4, h5, h6⟩ := hc i d hd
    exact ⟨op, nm, k, L, u, h1, h2, h3, h4, h5, ih h6⟩
/-- An expression as a value. -/
def EV (w : World) (P : Nat → Prop) (d : Sx.Tr) (v : Value) : Prop := ∃ n op nm k L a cap, d = Sx.tE op nm k L ∧ v = .agg #[.int .i64 op, .string (bs nm), .int .i64 k, .slice a L.length cap] ∧ EL w P n L (.slice a L.length cap)
theorem EV.keep {w w' : World} {S : List Nat} {P : Nat → Prop} {d : Sx.Tr} {v : Value} (h : EV w P d v) (hk : Kp S w w') (hS : ∀ k, k ∈ S → ¬ P k) : EV w' P d v := by
  obtain ⟨n, op, nm, k, L, a, cap, h1, h2, h3⟩ := h
  exact ⟨n, op, nm, k, L, a, cap, h1, h2, h3.keep hk hS⟩
theorem EV.base {w : World} {P P' : Nat → Prop} {d : Sx.Tr} {v : Value} (h : EV w P d v) (hB : ∀ b, b < w.heap.size → P b → P' b) : EV w P' d v := by
  obtain ⟨n, op, nm, k, L, a, cap, h1, h2, h3⟩ := h
  exact ⟨n, op, nm, k, L, a, cap, h1, h2, h3.base hB⟩
theorem EL.nil (w : World) (P : Nat → Prop) (a : Option Addr) (cap : Nat) : EL w P 1 [] (.slice a 0 cap) := ⟨a, cap, rfl, .inl rfl⟩
/-- No parts. -/
theorem EV.leaf (w : World) (P : Nat → Prop) (op : Int) (nm : List UInt8) (k : Int) : EV w P (Sx.tE op nm k []) (.agg #[.int .i64 op, .string (bs nm), .int .i64 k, .slice none 0 0]) :=
  ⟨1, op, nm, k, [], none, 0, rfl, rfl, EL.nil _ _ _ _⟩
/-- The four cells of a value. -/
theorem EV.open {w : World} {P : Nat → Prop} {d : Sx.Tr} {v : Value} (h : EV w P d v) : ∃ n op nm k L a len cap, len = L.length ∧ d = Sx.tE op nm k L ∧ v = .agg #[.int .i64 op, .string (bs nm), .int .i64 k, .slice a len cap] ∧ EL w P n L (.slice a len cap) := by
  obtain ⟨n, op, nm, k, L, a, cap, h1, h2, h3⟩ := h
  exact ⟨n, op, nm, k, L, a, _, cap, rfl, h1, h2, h3⟩
theorem EL.one {w : World} {P : Nat → Prop} {n b off cap : Nat} {O K : Int} {nm : List UInt8} {L : List Sx.Tr} {u : Value} (hB : P b)
    (h0 : w.cell? ⟨b, off, none⟩ = some (.int .i64 O)) (h1 : w.cell? ⟨b, off + 1, none⟩ = some (.string (bs nm))) (h2 : w.cell? ⟨b, off + 2, none⟩ = some (.int .i64 K)) (h3 : w.cell? ⟨b, off + 3, none⟩ = some u)
    (h : EL w P n L u) : EL w P (n + 1) [Sx.tE O nm K L] (.slice (some ⟨b, off, none⟩) 1 cap) := by
  refine ⟨_, cap, rfl, .inr ⟨b, off, rfl, hB, fun i d hd => ?_⟩⟩
  match i, hd with
  | 0, hd =>
    simp at hd
    exact ⟨O, nm, K, L, u, hd.symm, by simpa using h0, by simpa using h1, by simpa using h2, by simpa using h3, h⟩
theorem EL.two {w : World} {P : Nat → Prop} {n b cap : Nat} {O1 K1 O2 K2 : Int} {nm1 nm2 : List UInt8} {L1 L2 : List Sx.Tr} {u1 u2 : Value} (hB : P b)
    (h0 : w.cell? ⟨b, 0, none⟩ = some (.int .i64 O1)) (h1 : w.cell? ⟨b, 1, none⟩ = some (.string (bs nm1))) (h2 : w.cell? ⟨b, 2, none⟩ = some (.int .i64 K1)) (h3 : w.cell? ⟨b, 3, none⟩ = some u1)
    (h4 : w.cell? ⟨b, 4, none⟩ = some (.int .i64 O2)) (h5 : w.cell? ⟨b, 5, none⟩ = some (.string (bs nm2))) (h6 : w.cell? ⟨b, 6, none⟩ = some (.int .i64 K2)) (h7 : w.cell? ⟨b, 7, none⟩ = some u2)
    (h : EL w P n L1 u1) (h' : EL w P n L2 u2) : EL w P (n + 1) [Sx.tE O1 nm1 K1 L1, Sx.tE O2 nm2 K2 L2] (.slice (some ⟨b, 0, none⟩) 2 cap) := by
  refine ⟨_, cap, rfl, .inr ⟨b, 0, rfl, hB, fun i d hd => ?_⟩⟩
  match i, hd with
  | 0, hd =>
    simp at hd
    exact ⟨O1, nm1, K1, L1, u1, hd.symm, by simpa using h0, by simpa using h1, by simpa using h2, by simpa using h3, h⟩
  | 1, hd =>
    simp at hd
    exact ⟨O2, nm2, K2, L2, u2, hd.symm, by simpa using h4, by simpa using h5, by simpa using h6, by simpa using h7, h'⟩

set_option maxHeartbeats 400000 in
theorem part_any (op : Int) (nm : ByteArray) (k : Int) (a : Option Addr) (len cap : Nat) (c : Cx) (w : World) (n : Nat) (s : Sx.St) (h : RD c w n s) (hp : s.parts + 1 + (c.full.length - n) ≤ 12000) :
    Calls Tryz.prog 216 #[.pointer (some ⟨c.rb, 0, none⟩), .agg #[.int .i64 op, .string nm, .int .i64 k, .slice a len cap]] w fun e w' =>
      e = .returned (.agg #[.int .i64 op, .string nm, .int .i64 k, .slice a len cap]) ∧ RD c w' n s.part ∧ Kp [c.rb] w w' := by
  have HH := hide h
  have c6 := h.c6
  have f6 := h.fz 6
  have hr := h.rlt
  have hr' : ¬ c.rb = w.heap.size := by omega
  have hr2 : ¬ c.rb = w.heap.size + 1 := by omega
  have hs : s.parts ≤ 12000 := by omega
  clear h
  go_enter Tryz.func216, Tryz.ntmps216
  go_wp2
  refine bodyPost_ret (v := .agg #[.int .i64 op, .string nm, .int .i64 k, .slice a len cap]) (by simp [results, Tryz.results216, go_sem]) rfl ⟨rfl, ?_, ?_⟩
  · exact ((HH.out.part hp).alloc _).alloc _
  · exact ((Kp.rb (Kp.refl _ _) _ _).alloc _).alloc _
end Go.Proofs.YtfngmdebmedkjacGreatDoor

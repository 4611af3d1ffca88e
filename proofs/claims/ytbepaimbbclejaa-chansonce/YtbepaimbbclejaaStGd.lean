import Derived.Test.YtbepaimbbclejaaStGc
import Derived.Test.YtbepaimbbclejaaChS
import Derived.Test.YtbepaimbbclejaaChQ
import Derived.Test.YtbepaimbbclejaaChN
import Derived.Test.YtbepaimbbclejaaChL
import Derived.Test.YtbepaimbbclejaaChJ
import Derived.Test.YtbepaimbbclejaaChG
/- Channels: what each call makes of a state, plain; stores and books in memory by what they hold. -/
namespace Go.Proofs.Ytbepaimbbclejaa
open Go.RowKit

/-- All ends; of each channel its slots, its items, is it gone. -/
structure Cst where
  e : List En
  s : List Int
  i : List (List (Int × Int))
  g : List Bool
def Bk.c0 : Cst := ⟨[], [], [], []⟩
def Bk.mk (s : Cst) (sl t : Int) : Cst := if t < 0 then s else ⟨s.e ++ [⟨s.s.length, true, t, 0⟩, ⟨s.s.length, false, t, 0⟩], s.s ++ [max sl 0], s.i ++ [[]], s.g ++ [false]⟩
def Bk.mkA (s : Cst) (t : Int) : Int := if t < 0 then -1 else (s.e.length : Int)
def Bk.mkB (s : Cst) (t : Int) : Int := if t < 0 then -1 else ((s.e.length + 1 : Nat) : Int)
def Bk.clQ (s : Cst) (e t : Int) : Bool := Bk.there s.e e true && decide (0 ≤ t)
def Bk.cl (s : Cst) (e t : Int) : Cst := if Bk.clQ s e t then { s with e := s.e ++ [⟨(Ld.at s.e e).c, true, t, 0⟩] } else s
def Bk.clR (s : Cst) (e t : Int) : Int := if Bk.clQ s e t then (s.e.length : Int) else -1
def Bk.wt (s : Cst) (e : Int) : Bool := Bk.waits s.e s.s s.i s.g e
def Bk.dpR (s : Cst) (e : Int) : Bs × Bool := Bk.drop (Bk.tot s.i + 1) ⟨s.e, s.i, s.g⟩ e
def Bk.dp (s : Cst) (e : Int) : Cst := ⟨(Bk.dpR s e).1.e, s.s, (Bk.dpR s e).1.i, (Bk.dpR s e).1.g⟩
def Bk.ptQ (s : Cst) (e en : Int) : Bool := (Bk.there s.e e true && !(Bk.wt s e)) && (decide (en < 0) || Bk.may s.e e en)
def Bk.gn (s : Cst) (e : Int) : Bool := s.g.getD (Ld.at s.e e).c.toNat false
def Bk.its (s : Cst) (e : Int) : List (Int × Int) := s.i.getD (Ld.at s.e e).c.toNat []
def Bk.pt (s : Cst) (e n en : Int) : Cst :=
  if Bk.ptQ s e en then
    if Bk.gn s e then (if en < 0 then s else Bk.dp s en)
    else ⟨Ld.move s.e (Bk.pln n en).2 (-1), s.s, s.i.set (Ld.at s.e e).c.toNat (Bk.its s e ++ [Bk.pln n en]), s.g⟩
  else s
def Bk.tkQ (s : Cst) (e t : Int) : Bool := (Bk.there s.e e false && !(Bk.wt s e)) && decide (0 ≤ t)
def Bk.tk (s : Cst) (e t : Int) : Cst :=
  if Bk.tkQ s e t then
    match Bk.its s e with
    | [] => s
    | x :: M => ⟨Ld.move s.e x.2 t, s.s, s.i.set (Ld.at s.e e).c.toNat M, s.g⟩
  else s
def Bk.tkR (s : Cst) (e t : Int) : (Int × Int) × Int :=
  if Bk.tkQ s e t then
    match Bk.its s e with
    | [] => ((0, 0), 0)
    | x :: _ => (x, 1)
  else ((0, 0), -1)
/-- Well formed, and no more than so much. -/
structure Wf (k : Nat) (s : Cst) : Prop where
  o : BOk s.e s.s s.i s.g
  le : s.e.length ≤ 2 * k
  ls : s.s.length ≤ k
  lt : Bk.tot s.i ≤ k
theorem Wf.mono {k m : Nat} {s : Cst} (h : Wf k s) (hm : k ≤ m) : Wf m s := ⟨h.o, by have := h.le; omega, by have := h.ls; omega, by have := h.lt; omega⟩
theorem Wf.c0 : Wf 0 Bk.c0 := ⟨⟨rfl, rfl, fun _ hx => absurd hx List.not_mem_nil, fun _ hx => absurd hx List.not_mem_nil, Nat.zero_le _, Nat.zero_le _, fun _ hx => absurd hx List.not_mem_nil⟩, Nat.le_refl _, Nat.le_refl _, Nat.le_refl _⟩
/-- A store that holds s; all that it reaches lies in blocks of F. -/
def SX (F : Nat → Prop) (B : Nat) (w : World) (q : Nat) (s : Cst) : Prop :=
  ∃ pl ve vc P N, ST B w q pl ve vc P s.e s.s N s.i s.g ∧ SN s.e N ∧ ∀ b, F b ↔ ∃ j : Nat, (sob q pl ve vc P)[j]? = some (some b)
/-- A book that holds s. -/
def BX (F : Nat → Prop) (B : Nat) (w : World) (q : Nat) (s : Cst) : Prop :=
  ∃ ve vs vi vg iv, BK B w q ve vs vi vg iv s.e s.s s.i s.g ∧ ∀ b, F b ↔ ∃ j : Nat, (obs q ve vs vi vg iv)[j]? = some (some b)
theorem SX.lt {F : Nat → Prop} {B : Nat} {w : World} {q : Nat} {s : Cst} (h : SX F B w q s) : ∀ b, F b → B ≤ b ∧ b < w.heap.size := by
  obtain ⟨pl, ve, vc, P, N, h1, h2, h3⟩ := h
  intro b hb
  obtain ⟨j, hj⟩ := (h3 b).1 hb
  exact h1.bnd hj
theorem BX.lt {F : Nat → Prop} {B : Nat} {w : World} {q : Nat} {s : Cst} (h : BX F B w q s) : ∀ b, F b → B ≤ b ∧ b < w.heap.size := by
  obtain ⟨ve, vs, vi, vg, iv, h1, h3⟩ := h
  intro b hb
  obtain ⟨j, hj⟩ := (h3 b).1 hb
  exact h1.bnd hj
theorem SX.keep {F : Nat → Prop} {B : Nat} {w w' : World} {q : Nat} {s : Cst} (h : SX F B w q s) (hk : Kx F w w') : SX F B w' q s := by
  obtain ⟨pl, ve, vc, P, N, h1, h2, h3⟩ := h
  exact ⟨pl, ve, vc, P, N, h1.keepX hk (fun j b hj => (h3 b).2 ⟨j, hj⟩), h2, h3⟩
theorem BX.keep {F : Nat → Prop} {B : Nat} {w w' : World} {q : Nat} {s : Cst} (h : BX F B w q s) (hk : Kx F w w') : BX F B w' q s := by
  obtain ⟨ve, vs, vi, vg, iv, h1, h3⟩ := h
  exact ⟨ve, vs, vi, vg, iv, h1.keepX hk (fun j b hj => (h3 b).2 ⟨j, hj⟩), h3⟩
/-- A store was changed. -/
def US (F : Nat → Prop) (B : Nat) (w : World) (q : Nat) (s' : Cst) (w' : World) : Prop := ∃ F' : Nat → Prop, SX F' B w' q s' ∧ Kx (fun b => ¬ F b) w w' ∧ ∀ b, F' b → F b ∨ w.heap.size ≤ b
def UB (F : Nat → Prop) (B : Nat) (w : World) (q : Nat) (s' : Cst) (w' : World) : Prop := ∃ F' : Nat → Prop, BX F' B w' q s' ∧ Kx (fun b => ¬ F b) w w' ∧ ∀ b, F' b → F b ∨ w.heap.size ≤ b
theorem US.made {F : Nat → Prop} {B : Nat} {w w' : World} {q pl : Nat} {ve vc : Value} {P : List Pl} {s : Cst} (hF : ∀ b, F b ↔ ∃ j : Nat, (sob q pl ve vc P)[j]? = some (some b)) {pl' : Nat} {ve' vc' : Value} {P' : List Pl} {N' : List Int} (h : ST B w' q pl' ve' vc' P' s.e s.s N' s.i s.g) (hn : SN s.e N') (hb : BC w w' (sob q pl ve vc P) (sob q pl' ve' vc' P')) : US F B w q s w' :=
  ⟨fun b => ∃ j : Nat, (sob q pl' ve' vc' P')[j]? = some (some b), ⟨pl', ve', vc', P', N', h, hn, fun _ => Iff.rfl⟩, hb.k.mono (fun b _ hb j hj => hb ((hF b).2 ⟨j, hj⟩)), fun b ⟨j, hj⟩ => (hb.n j b hj).imp (fun h => (hF b).2 h) id⟩
theorem UB.made {F : Nat → Prop} {B : Nat} {w w' : World} {q : Nat} {ve vs vi vg : Value} {iv : List Value} {s : Cst} (hF : ∀ b, F b ↔ ∃ j : Nat, (obs q ve vs vi vg iv)[j]? = some (some b)) {ve' vs' vi' vg' : Value} {iv' : List Value} (h : BK B w' q ve' vs' vi' vg' iv' s.e s.s s.i s.g) (hb : BC w w' (obs q ve vs vi vg iv) (obs q ve' vs' vi' vg' iv')) : UB F B w q s w' :=
  ⟨fun b => ∃ j : Nat, (obs q ve' vs' vi' vg' iv')[j]? = some (some b), ⟨ve', vs', vi', vg', iv', h, fun _ => Iff.rfl⟩, hb.k.mono (fun b _ hb j hj => hb ((hF b).2 ⟨j, hj⟩)), fun b ⟨j, hj⟩ => (hb.n j b hj).imp (fun h => (hF b).2 h) id⟩
theorem US.same {F : Nat → Prop} {B : Nat} {w w' : World} {q : Nat} {s : Cst} (h : SX F B w q s) (hb : Below w.heap.size w w') : US F B w q s w' := ⟨F, h.keep (Kx.of_below hb), Kx.of_below hb, fun _ hb => .inl hb⟩
theorem UB.same {F : Nat → Prop} {B : Nat} {w w' : World} {q : Nat} {s : Cst} (h : BX F B w q s) (hb : Below w.heap.size w w') : UB F B w q s w' := ⟨F, h.keep (Kx.of_below hb), Kx.of_below hb, fun _ hb => .inl hb⟩
section
variable {F : Nat → Prop} {B : Nat} {w : World} {q k : Nat} {s : Cst}
theorem SN.snoc {E : List En} {N : List Int} (h : SN E N) (hE : ∀ x ∈ E, x.c < (N.length : Int)) (t : Int) (ht : 0 ≤ t) : SN (E ++ [⟨N.length, true, t, 0⟩, ⟨N.length, false, t, 0⟩]) (N ++ [1]) := by
  have key : ∀ c : Nat, Bk.send (E ++ [⟨N.length, true, t, 0⟩, ⟨N.length, false, t, 0⟩]) (c : Int) = Bk.send E (c : Int) + if c = N.length then 1 else 0 := fun c => by
    unfold Bk.send
    rw [List.filter_append, List.length_append]
    congr 1
    have ht2 : (t == -2) = false := beq_eq_false_iff_ne.2 (by omega)
    by_cases e : c = N.length
    · subst e; simp [Bk.cnt, ht2]
    · have e' : ((N.length : Int) == (c : Int)) = false := beq_eq_false_iff_ne.2 (by omega)
      rw [if_neg e]
      simp only [List.filter_cons, List.filter_nil, Bk.cnt, e', Bool.false_and, Bool.false_eq_true, if_false, List.length_nil]
  have h0 : Bk.send E (N.length : Int) = 0 := by
    unfold Bk.send
    rw [List.length_eq_zero_iff, List.filter_eq_nil_iff]
    intro x hx
    have := hE x hx
    simp [Bk.cnt]
    omega
  intro c hc
  rw [List.length_append, List.length_singleton] at hc
  rw [key]
  by_cases e : c = N.length
  · subst e
    rw [List.getElem?_append_right (Nat.le_refl _), Nat.sub_self, h0]
    simp
  · rw [List.getElem?_append_left (by omega), h c (by omega), if_neg e]
    simp
theorem SN.one {E : List En} {N : List Int} (h : SN E N) (c : Nat) (t : Int) (ht : 0 ≤ t) : SN (E ++ [⟨(c : Int), true, t, 0⟩]) (N.set c ((Bk.send E (c : Int) : Int) + 1)) := by
  have key : ∀ j : Nat, Bk.send (E ++ [⟨(c : Int), true, t, 0⟩]) (j : Int) = Bk.send E (j : Int) + if j = c then 1 else 0 := fun j => by
    unfold Bk.send
    rw [List.filter_append, List.length_append]
    congr 1
    have ht2 : (t == -2) = false := beq_eq_false_iff_ne.2 (by omega)
    by_cases e : j = c
    · subst e; simp [Bk.cnt, ht2]
    · have e' : ((c : Int) == (j : Int)) = false := beq_eq_false_iff_ne.2 (by omega)
      rw [if_neg e]
      simp only [List.filter_cons, List.filter_nil, Bk.cnt, e', Bool.false_and, Bool.false_eq_true, if_false, List.length_nil]
  intro j hj
  rw [List.length_set] at hj
  rw [key]
  by_cases e : j = c
  · subst e
    rw [List.getElem?_set_self hj, if_pos rfl]
    simp
  · rw [List.getElem?_set_ne (fun e' => e e'.symm), h j hj, if_neg e]
    simp
theorem SX.new (w : World) : Calls Try.prog 6 #[] w fun r w' => ∃ q, r = .returned (.pointer (some ⟨q, 0, none⟩)) ∧ (∃ F, SX F w.heap.size w' q Bk.c0) ∧ Below w.heap.size w w' := by
  refine (csNew_any w).mono ?_
  rintro e w' ⟨q, pl, rfl, h1, h2⟩
  exact ⟨q, rfl, ⟨_, pl, _, _, _, _, h1, fun k hk => by simp at hk, fun _ => Iff.rfl⟩, h2⟩
theorem SX.wt (h : SX F B w q s) (hw : Wf k s) (e : Int) : Calls Try.prog 7 #[.pointer (some ⟨q, 0, none⟩), .int .i64 e] w fun r w' => r = .returned (.bool (Bk.wt s e)) ∧ Below w.heap.size w w' := by
  obtain ⟨pl, ve, vc, P, N, h1, h2, h3⟩ := h
  exact csWaits_any h1 hw.o h2 e
theorem BX.wt (h : BX F B w q s) (hw : Wf k s) (e : Int) : Calls Try.prog 8 #[.pointer (some ⟨q, 0, none⟩), .int .i64 e] w fun r w' => r = .returned (.bool (Bk.wt s e)) ∧ Below w.heap.size w w' := by
  obtain ⟨ve, vs, vi, vg, iv, h1, h3⟩ := h
  exact bwaits_any h1 hw.o e
theorem SX.chans (h : SX F B w q s) (hw : Wf k s) : Calls Try.prog 11 #[.pointer (some ⟨q, 0, none⟩)] w fun r w' => ∃ u, r = .returned u ∧ CvR w' u (Bk.cvs s.e s.s s.i s.g) ∧ Below w.heap.size w w' := by
  obtain ⟨pl, ve, vc, P, N, h1, h2, h3⟩ := h
  exact csChans_any h1 hw.o h2
theorem BX.chans (h : BX F B w q s) (hw : Wf k s) : Calls Try.prog 12 #[.pointer (some ⟨q, 0, none⟩)] w fun r w' => ∃ u, r = .returned u ∧ CvR w' u (Bk.cvs s.e s.s s.i s.g) ∧ Below w.heap.size w w' := by
  obtain ⟨ve, vs, vi, vg, iv, h1, h3⟩ := h
  exact bchans_any h1 hw.o
theorem SX.mk (h : SX F B w q s) (hw : Wf k s) (hB : B ≤ w.heap.size) (sl t : Int) : Calls Try.prog 17 #[.pointer (some ⟨q, 0, none⟩), .int .i64 sl, .int .i64 t] w fun r w' => r = .returned (.tuple #[.int .i64 (Bk.mkA s t), .int .i64 (Bk.mkB s t)]) ∧ US F B w q (Bk.mk s sl t) w' := by
  unfold Bk.mkA Bk.mkB Bk.mk
  by_cases ht : t < 0
  · rw [if_pos ht, if_pos ht, if_pos ht]
    refine (csMake_no w q sl t ht).mono ?_
    rintro e w' ⟨rfl, rfl⟩
    exact ⟨rfl, US.same h (Below.refl _ _)⟩
  · rw [if_neg ht, if_neg ht, if_neg ht]
    obtain ⟨pl, ve, vc, P, N, h1, h2, h3⟩ := h
    obtain ⟨l1, l2, l3, l4⟩ := h1.ln
    refine (csMake_yes h1 hw.o.le (by have := hw.o.ls; omega) sl t (by omega) hB).mono ?_
    rintro e w' ⟨rfl, ve', vc', P', h4, h5⟩
    refine ⟨rfl, US.made (s := ⟨_, _, _, _⟩) h3 (N' := N ++ [1]) (by simp only; rw [l1]; exact h4) ?_ h5⟩
    have := h2.snoc (fun x hx => by have := (hw.o.ec x hx).2; omega) t (by omega)
    simp only
    rw [l1, ← l2]
    exact this
theorem BX.mk (h : BX F B w q s) (hw : Wf k s) (hB : B ≤ w.heap.size) (sl t : Int) : Calls Try.prog 27 #[.pointer (some ⟨q, 0, none⟩), .int .i64 sl, .int .i64 t] w fun r w' => r = .returned (.tuple #[.int .i64 (Bk.mkA s t), .int .i64 (Bk.mkB s t)]) ∧ UB F B w q (Bk.mk s sl t) w' := by
  unfold Bk.mkA Bk.mkB Bk.mk
  have hh := h
  obtain ⟨ve, vs, vi, vg, iv, h1, h3⟩ := h
  have := bmake_any h1 hw.o sl t hB
  by_cases ht : t < 0
  · rw [if_pos ht, if_pos ht, if_pos ht]
    simp only [if_pos ht] at this
    refine this.mono ?_
    rintro e w' ⟨rfl, rfl⟩
    exact ⟨rfl, UB.same hh (Below.refl _ _)⟩
  · rw [if_neg ht, if_neg ht, if_neg ht]
    simp only [if_neg ht] at this
    refine this.mono ?_
    rintro e w' ⟨rfl, ve', vs', vi', vg', h4, h5⟩
    exact ⟨rfl, UB.made (s := ⟨_, _, _, _⟩) h3 h4 h5⟩
theorem clQ_no {e t : Int} (h : Bk.clQ s e t = false) : Bk.there s.e e true = false ∨ t < 0 := by
  unfold Bk.clQ at h
  rw [Bool.and_eq_false_iff, decide_eq_false_iff_not] at h
  exact h.imp id (fun h => by omega)
theorem clQ_yes {e t : Int} (h : Bk.clQ s e t = true) : Bk.there s.e e true = true ∧ 0 ≤ t := by
  unfold Bk.clQ at h
  rw [Bool.and_eq_true, decide_eq_true_iff] at h
  exact h
theorem SX.cl (h : SX F B w q s) (hw : Wf k s) (e t : Int) : Calls Try.prog 28 #[.pointer (some ⟨q, 0, none⟩), .int .i64 e, .int .i64 t] w fun r w' => r = .returned (.int .i64 (Bk.clR s e t)) ∧ US F B w q (Bk.cl s e t) w' := by
  unfold Bk.clR Bk.cl
  have hh := h
  obtain ⟨pl, ve, vc, P, N, h1, h2, h3⟩ := h
  cases hq : Bk.clQ s e t with
  | false =>
    refine (csClone_no h1 hw.o h2 e t (clQ_no hq)).mono ?_
    rintro e w' ⟨rfl, hb⟩
    exact ⟨rfl, US.same hh hb⟩
  | true =>
    obtain ⟨q1, q2⟩ := clQ_yes hq
    refine (csClone_yes h1 hw.o h2 e t q1 q2).mono ?_
    rintro e' w' ⟨rfl, ve', h4, h5⟩
    obtain ⟨c, p, sl, M, g, hc, -⟩ := h1.of hw.o h2 q1
    refine ⟨rfl, US.made (s := ⟨_, _, _, _⟩) h3 h4 ?_ h5⟩
    simp only
    rw [hc, Int.toNat_natCast]
    exact h2.one c t q2
theorem BX.cl (h : BX F B w q s) (hw : Wf k s) (hB : B ≤ w.heap.size) (e t : Int) : Calls Try.prog 29 #[.pointer (some ⟨q, 0, none⟩), .int .i64 e, .int .i64 t] w fun r w' => r = .returned (.int .i64 (Bk.clR s e t)) ∧ UB F B w q (Bk.cl s e t) w' := by
  unfold Bk.clR Bk.cl
  have hh := h
  obtain ⟨ve, vs, vi, vg, iv, h1, h3⟩ := h
  cases hq : Bk.clQ s e t with
  | false =>
    refine (bclone_no h1 e t (clQ_no hq)).mono ?_
    rintro e w' ⟨rfl, hb⟩
    exact ⟨rfl, UB.same hh hb⟩
  | true =>
    obtain ⟨q1, q2⟩ := clQ_yes hq
    refine (bclone_yes h1 hw.o.le e t hB q1 q2).mono ?_
    rintro e' w' ⟨rfl, ve', h4, h5⟩
    exact ⟨rfl, UB.made (s := ⟨_, _, _, _⟩) h3 h4 h5⟩
theorem SX.dp (h : SX F B w q s) (hw : Wf k s) (hk : k ≤ 1000) (e : Int) : Calls Try.prog 16 #[.pointer (some ⟨q, 0, none⟩), .int .i64 e] w fun r w' => r = .returned (.bool (Bk.dpR s e).2) ∧ US F B w q (Bk.dp s e) w' := by
  obtain ⟨pl, ve, vc, P, N, h1, h2, h3⟩ := h
  refine (csDrop_any h1 hw.o h2 (by have := hw.lt; omega) e (Bk.tot s.i + 1) (by omega)).mono ?_
  rintro e' w' ⟨rfl, P', N', h4, h5, h6⟩
  exact ⟨rfl, US.made (s := ⟨_, _, _, _⟩) h3 h4 h5 h6.bc⟩
theorem BX.dp (h : BX F B w q s) (hw : Wf k s) (e : Int) : Calls Try.prog 32 #[.pointer (some ⟨q, 0, none⟩), .int .i64 e] w fun r w' => r = .returned (.bool (Bk.dpR s e).2) ∧ UB F B w q (Bk.dp s e) w' := by
  obtain ⟨ve, vs, vi, vg, iv, h1, h3⟩ := h
  refine (bdrop_any B q (Bk.tot s.i + 1) w ve vs vi vg iv s.s ⟨s.e, s.i, s.g⟩ e h1 hw.o (by simp)).mono ?_
  rintro e' w' ⟨rfl, iv', h4, h5⟩
  exact ⟨rfl, UB.made (s := ⟨_, _, _, _⟩) h3 h4 h5⟩
end
end Go.Proofs.Ytbepaimbbclejaa
/- Channels: Put and Take, of stores and of books. -/
namespace Go.Proofs.Ytbepaimbbclejaa
open Go.RowKit

section
variable {F : Nat → Prop} {B : Nat} {w : World} {q k : Nat} {s : Cst}
theorem ptQ_no {e en : Int} (h : Bk.ptQ s e en = false) : Bk.there s.e e true = false ∨ Bk.wt s e = true ∨ (Bk.there s.e e true = true ∧ Bk.wt s e = false ∧ 0 ≤ en ∧ Bk.may s.e e en = false) := by
  unfold Bk.ptQ at h
  cases h1 : Bk.there s.e e true with
  | false => exact .inl rfl
  | true =>
    cases h2 : Bk.wt s e with
    | true => exact .inr (.inl rfl)
    | false =>
      rw [h1, h2] at h
      simp only [Bool.not_false, Bool.and_self, Bool.true_and, Bool.or_eq_false_iff, decide_eq_false_iff_not] at h
      exact .inr (.inr ⟨rfl, rfl, by omega, h.2⟩)
theorem ptQ_yes {e en : Int} (h : Bk.ptQ s e en = true) : Bk.there s.e e true = true ∧ Bk.wt s e = false ∧ (en < 0 ∨ (0 ≤ en ∧ Bk.may s.e e en = true)) := by
  unfold Bk.ptQ at h
  simp only [Bool.and_eq_true, Bool.or_eq_true, Bool.not_eq_true', decide_eq_true_eq] at h
  obtain ⟨⟨h1, h2⟩, h3⟩ := h
  refine ⟨h1, h2, ?_⟩
  by_cases e1 : en < 0
  · exact .inl e1
  · exact .inr ⟨by omega, h3.resolve_left e1⟩
theorem may_no {E : List En} {e en : Int} (h : Bk.may E e en = false) : Ld.has E en = false ∨ (Ld.at E en).h < 0 ∨ en = e := by
  unfold Bk.may at h
  simp only [Bool.and_eq_false_iff, decide_eq_false_iff_not, Bool.not_eq_false', beq_iff_eq] at h
  rcases h with h | h | h
  · exact .inl h
  · exact .inr (.inl (by omega))
  · exact .inr (.inr h)
theorem may_yes {E : List En} {e en : Int} (h : Bk.may E e en = true) : Ld.has E en = true ∧ 0 ≤ (Ld.at E en).h ∧ en ≠ e := by
  unfold Bk.may at h
  simp only [Bool.and_eq_true, decide_eq_true_eq, Bool.not_eq_true', beq_eq_false_iff_ne] at h
  exact h
theorem move_may {E : List En} {e en : Int} (h : Bk.may E e en = true) : Ld.move E en (-1) = E.set en.toNat { Ld.at E en with h := -1 } := by
  obtain ⟨h1, h2, -⟩ := may_yes h
  unfold Ld.move Ld.may
  rw [h1, beq_eq_false_iff_ne.2 (by omega : (Ld.at E en).h ≠ -2)]
  rfl
theorem move_neg (E : List En) (t : Int) : Ld.move E (-1) t = E := by
  have : Ld.has E (-1) = false := by simp [Ld.has]
  unfold Ld.move Ld.may
  rw [this]
  rfl
theorem Wf.here (hw : Wf k s) {e : Int} {b : Bool} (h : Bk.there s.e e b = true) : ∃ c : Nat, (Ld.at s.e e).c = (c : Int) ∧ c < s.s.length ∧ s.i[(Ld.at s.e e).c.toNat]? = some (Bk.its s e) ∧ s.g[(Ld.at s.e e).c.toNat]? = some (Bk.gn s e) ∧ (Bk.its s e).length ≤ k := by
  obtain ⟨j, x, -, hx, ha, -, -, -⟩ := Bk.there_some h
  obtain ⟨c, sl, M, g, hc, hS, hI, hG, hcl, hMl⟩ := hw.o.chan hx
  have hl := hw.lt
  have := Bk.mem_tot (List.mem_of_getElem? hI)
  unfold Bk.its Bk.gn
  rw [ha, hc, Int.toNat_natCast, List.getD_eq_getElem?_getD, List.getD_eq_getElem?_getD, hI, hG]
  exact ⟨c, rfl, hcl, rfl, rfl, by simp only [Option.getD_some]; omega⟩
theorem SX.pt (h : SX F B w q s) (hw : Wf k s) (hk : k ≤ 1000) (hB : B ≤ w.heap.size) (e n en : Int) : Calls Try.prog 18 #[.pointer (some ⟨q, 0, none⟩), .int .i64 e, .agg #[.int .i64 n, .int .i64 en]] w fun r w' => r = .returned (.bool (Bk.ptQ s e en)) ∧ US F B w q (Bk.pt s e n en) w' := by
  unfold Bk.pt
  have hh := h
  obtain ⟨pl, ve, vc, P, N, h1, h2, h3⟩ := h
  cases hq : Bk.ptQ s e en with
  | false =>
    refine (csPut_no h1 hw.o h2 e n en ((ptQ_no hq).imp id (fun h => h.imp id (fun h => h.2.2)))).mono ?_
    rintro e w' ⟨rfl, hb⟩
    exact ⟨rfl, US.same hh hb⟩
  | true =>
    obtain ⟨q1, q2, q3⟩ := ptQ_yes hq
    obtain ⟨c, hc, hcl, hi, hg, hl⟩ := hw.here q1
    simp only [if_true]
    rcases q3 with q3 | ⟨q3, q4⟩
    · cases hgv : Bk.gn s e with
      | true =>
        rw [hgv] at hg
        refine (csPut_gn h1 hw.o h2 e n en q1 q2 q3 hg).mono ?_
        rintro e w' ⟨rfl, hb⟩
        simp only [if_true, if_pos q3]
        exact ⟨trivial, US.same hh hb⟩
      | false =>
        rw [hgv] at hg
        refine (csPut_num h1 hw.o h2 e n en q1 q2 q3 hg _ hi (by omega) hB).mono ?_
        rintro e' w' ⟨rfl, P', h4, h5⟩
        refine ⟨rfl, US.made h3 (N' := N) (P' := P') ?_ ?_ h5⟩
        · simp only [Bool.false_eq_true, if_false]; unfold Bk.pln; rw [if_neg (by omega : ¬ 0 ≤ en)]; exact h4
        · simp only [Bool.false_eq_true, if_false]; unfold Bk.pln; rw [if_neg (by omega : ¬ 0 ≤ en), move_neg]; exact h2
    · cases hgv : Bk.gn s e with
      | true =>
        rw [hgv] at hg
        refine (csPut_gone h1 hw.o h2 e n en q1 q2 q3 q4 hg (by have := hw.lt; omega) (Bk.tot s.i + 1) (by omega)).mono ?_
        rintro e' w' ⟨rfl, P', N', h4, h5, h6⟩
        simp only [if_true, if_neg (by omega : ¬ en < 0)]
        exact ⟨trivial, US.made (s := ⟨_, _, _, _⟩) h3 h4 h5 h6⟩
      | false =>
        rw [hgv] at hg
        refine (csPut_end h1 hw.o h2 e n en q1 q2 q3 q4 hg _ hi (by omega) hB).mono ?_
        rintro e' w' ⟨rfl, P', h4, h5⟩
        refine ⟨rfl, US.made h3 (N' := N) (P' := P') ?_ ?_ h5⟩
        · simp only [Bool.false_eq_true, if_false]; unfold Bk.pln; rw [if_pos q3]; exact h4
        · simp only [Bool.false_eq_true, if_false]; unfold Bk.pln; rw [if_pos q3]; exact h2.move en (-1) (by decide)
theorem BX.pt (h : BX F B w q s) (hw : Wf k s) (hB : B ≤ w.heap.size) (e n en : Int) : Calls Try.prog 30 #[.pointer (some ⟨q, 0, none⟩), .int .i64 e, .agg #[.int .i64 n, .int .i64 en]] w fun r w' => r = .returned (.bool (Bk.ptQ s e en)) ∧ UB F B w q (Bk.pt s e n en) w' := by
  unfold Bk.pt
  have hh := h
  obtain ⟨ve, vs, vi, vg, iv, h1, h3⟩ := h
  cases hq : Bk.ptQ s e en with
  | false =>
    have hC : Calls Try.prog 30 #[.pointer (some ⟨q, 0, none⟩), .int .i64 e, .agg #[.int .i64 n, .int .i64 en]] w fun r w' => r = .returned (.bool false) ∧ Below w.heap.size w w' := by
      rcases ptQ_no hq with h | h | ⟨a1, a2, a3, a4⟩
      · exact bput_no h1 hw.o e n en (.inl h)
      · exact bput_no h1 hw.o e n en (.inr h)
      · exact bput_bad h1 hw.o e n en a1 a2 a3 (may_no a4)
    refine hC.mono ?_
    rintro e w' ⟨rfl, hb⟩
    exact ⟨rfl, UB.same hh hb⟩
  | true =>
    obtain ⟨q1, q2, q3⟩ := ptQ_yes hq
    obtain ⟨c, hc, hcl, hi, hg, hl⟩ := hw.here q1
    simp only [if_true]
    rcases q3 with q3 | ⟨q3, q4⟩
    · cases hgv : Bk.gn s e with
      | true =>
        rw [hgv] at hg
        refine (bput_gn h1 hw.o e n en q1 q2 q3 hg).mono ?_
        rintro e w' ⟨rfl, hb⟩
        simp only [if_true, if_pos q3]
        exact ⟨trivial, UB.same hh hb⟩
      | false =>
        rw [hgv] at hg
        refine (bput_num h1 hw.o e n en q1 q2 q3 hg _ hi hB).mono ?_
        rintro e' w' ⟨rfl, iv', h4, h5⟩
        refine ⟨rfl, UB.made h3 (iv' := iv') ?_ h5⟩
        simp only [Bool.false_eq_true, if_false]; unfold Bk.pln; rw [if_neg (by omega : ¬ 0 ≤ en), move_neg]; exact h4
    · cases hgv : Bk.gn s e with
      | true =>
        rw [hgv] at hg
        refine (bput_gone h1 hw.o e n en q1 q2 q3 (may_yes q4) hg (Bk.tot s.i + 1) (by omega)).mono ?_
        rintro e' w' ⟨rfl, iv', h4, h5⟩
        simp only [if_true, if_neg (by omega : ¬ en < 0)]
        exact ⟨trivial, UB.made (s := ⟨_, _, _, _⟩) h3 h4 h5⟩
      | false =>
        rw [hgv] at hg
        refine (bput_end h1 hw.o e n en q1 q2 q3 (may_yes q4) hg _ hi hB).mono ?_
        rintro e' w' ⟨rfl, iv', h4, h5⟩
        refine ⟨rfl, UB.made h3 (iv' := iv') ?_ h5⟩
        simp only [Bool.false_eq_true, if_false]; unfold Bk.pln; rw [if_pos q3, move_may q4]; exact h4
theorem tkQ_no {e t : Int} (h : Bk.tkQ s e t = false) : Bk.there s.e e false = false ∨ Bk.wt s e = true ∨ t < 0 := by
  unfold Bk.tkQ at h
  simp only [Bool.and_eq_false_iff, Bool.not_eq_false', decide_eq_false_iff_not] at h
  rcases h with (h | h) | h
  · exact .inl h
  · exact .inr (.inl h)
  · exact .inr (.inr (by omega))
theorem tkQ_yes {e t : Int} (h : Bk.tkQ s e t = true) : Bk.there s.e e false = true ∧ Bk.wt s e = false ∧ 0 ≤ t := by
  unfold Bk.tkQ at h
  simp only [Bool.and_eq_true, Bool.not_eq_true', decide_eq_true_eq] at h
  exact ⟨h.1.1, h.1.2, h.2⟩
theorem SX.tk (h : SX F B w q s) (hw : Wf k s) (hB : B ≤ w.heap.size) (e t : Int) : Calls Try.prog 19 #[.pointer (some ⟨q, 0, none⟩), .int .i64 e, .int .i64 t] w fun r w' => r = .returned (.tuple #[.agg #[.int .i64 (Bk.tkR s e t).1.1, .int .i64 (Bk.tkR s e t).1.2], .int .i64 (Bk.tkR s e t).2]) ∧ US F B w q (Bk.tk s e t) w' := by
  unfold Bk.tk Bk.tkR
  have hh := h
  obtain ⟨pl, ve, vc, P, N, h1, h2, h3⟩ := h
  cases hq : Bk.tkQ s e t with
  | false =>
    refine (csTake_no h1 hw.o h2 e t (tkQ_no hq)).mono ?_
    rintro e w' ⟨rfl, hb⟩
    exact ⟨rfl, US.same hh hb⟩
  | true =>
    obtain ⟨q1, q2, q3⟩ := tkQ_yes hq
    obtain ⟨c, hc, hcl, hi, hg, hl⟩ := hw.here q1
    simp only [if_true]
    cases hM : Bk.its s e with
    | nil =>
      rw [hM] at hi
      refine (csTake_nil h1 hw.o h2 e t q1 q2 q3 hi).mono ?_
      rintro e w' ⟨rfl, hb⟩
      exact ⟨rfl, US.same hh hb⟩
    | cons x M =>
      obtain ⟨x1, x2⟩ := x
      rw [hM] at hi
      refine (csTake_some h1 hw.o h2 hB e t q1 q3 x1 x2 M hi).mono ?_
      rintro e' w' ⟨rfl, P', h4, h5⟩
      exact ⟨rfl, US.made (s := ⟨_, _, _, _⟩) h3 h4 (h2.move x2 t (by omega)) h5⟩
theorem BX.tk (h : BX F B w q s) (hw : Wf k s) (e t : Int) : Calls Try.prog 31 #[.pointer (some ⟨q, 0, none⟩), .int .i64 e, .int .i64 t] w fun r w' => r = .returned (.tuple #[.agg #[.int .i64 (Bk.tkR s e t).1.1, .int .i64 (Bk.tkR s e t).1.2], .int .i64 (Bk.tkR s e t).2]) ∧ UB F B w q (Bk.tk s e t) w' := by
  unfold Bk.tk Bk.tkR
  have hh := h
  obtain ⟨ve, vs, vi, vg, iv, h1, h3⟩ := h
  cases hq : Bk.tkQ s e t with
  | false =>
    refine (btake_no h1 hw.o e t (tkQ_no hq)).mono ?_
    rintro e w' ⟨rfl, hb⟩
    exact ⟨rfl, UB.same hh hb⟩
  | true =>
    obtain ⟨q1, q2, q3⟩ := tkQ_yes hq
    obtain ⟨c, hc, hcl, hi, hg, hl⟩ := hw.here q1
    simp only [if_true]
    cases hM : Bk.its s e with
    | nil =>
      rw [hM] at hi
      refine (btake_nil h1 hw.o e t q1 q2 q3 hi).mono ?_
      rintro e w' ⟨rfl, hb⟩
      exact ⟨rfl, UB.same hh hb⟩
    | cons x M =>
      obtain ⟨x1, x2⟩ := x
      rw [hM] at hi
      refine (btake_some h1 hw.o e t q1 q2 q3 x1 x2 M hi).mono ?_
      rintro e' w' ⟨rfl, iv', h4, h5⟩
      have hx2 : x2 < (s.e.length : Int) := hw.o.ie _ (List.mem_of_getElem? hi) (x1, x2) (by simp)
      rw [Bk.given_move hx2 q3] at h4
      exact ⟨rfl, UB.made (s := ⟨_, _, _, _⟩) h3 h4 h5⟩
end
end Go.Proofs.Ytbepaimbbclejaa
/- Channels, plain: what is well formed stays so; a step. -/
namespace Go.Proofs.Ytbepaimbbclejaa
open Go.RowKit

theorem Bk.tot_put {I : List (List (Int × Int))} : ∀ {c : Nat} {M : List (Int × Int)} (M' : List (Int × Int)), I[c]? = some M → Bk.tot (I.set c M') + M.length = Bk.tot I + M'.length := by
  induction I with
  | nil => intro c M M' h; simp at h
  | cons A I ih =>
    intro c M M' h
    cases c with
    | zero => simp at h; subst h; simp [Bk.tot]; omega
    | succ c =>
      have := ih (c := c) M' (by simpa using h)
      simp only [Bk.tot, List.set_cons_succ, List.map_cons, List.sum_cons] at *
      omega
theorem Ld.move_rl (s : Bs) (j h : Int) : Rl s { s with e := Ld.move s.e j h } := by
  unfold Ld.move
  split
  · rename_i hm
    rcases Ld.cs s.e j with ⟨k, x, rfl, hx, hk, h1, h2⟩ | ⟨h1, h2, -⟩
    · rw [h2, Int.toNat_natCast]
      exact Rl.sete hx rfl rfl
    · unfold Ld.may at hm; rw [h1] at hm; cases hm
  · exact Rl.refl s
section
variable {k : Nat} {s : Cst}
theorem Wf.rl (h : Wf k s) {s' : Bs} (hr : Rl ⟨s.e, s.i, s.g⟩ s') : Wf k ⟨s'.e, s.s, s'.i, s'.g⟩ :=
  ⟨hr.ok h.o, by have := hr.le; have := h.le; simp at *; omega, h.ls, Nat.le_trans hr.tt h.lt⟩
theorem Wf.seti (h : Wf k s) {c : Nat} {M : List (Int × Int)} (M' : List (Int × Int)) (hc : s.i[c]? = some M) (hi : ∀ i ∈ M', i.2 < (s.e.length : Int)) {m : Nat} (hm : k ≤ m) (hm2 : m ≤ 1000) (hl : Bk.tot s.i + M'.length ≤ m + M.length) : Wf m { s with i := s.i.set c M' } := by
  have ht := Bk.tot_put M' hc
  have hle := h.le
  have hls := h.ls
  have hmem : ∀ A ∈ s.i.set c M', A ∈ s.i ∨ A = M' := fun A hA => (List.mem_or_eq_of_mem_set hA)
  refine ⟨⟨by simp [h.o.lI], h.o.lG, h.o.ec, fun A hA i hi' => ?_, h.o.le, h.o.ls, fun A hA => ?_⟩, by simp; omega, by simp; omega, by simp; omega⟩
  · rcases hmem A hA with h1 | rfl
    · exact h.o.ie A h1 i hi'
    · exact hi i hi'
  · have := Bk.mem_tot hA
    simp at this
    omega
theorem Wf.mke (h : Wf k s) (hk : k < 1000) (sl t : Int) : Wf (k + 1) (Bk.mk s sl t) := by
  unfold Bk.mk
  split
  · exact h.mono (by omega)
  · have hle := h.le
    have hls := h.ls
    have hlt := h.lt
    refine ⟨⟨by simp [h.o.lI], by simp [h.o.lG], fun x hx => ?_, fun M hM i hi => ?_, by simp; omega, by simp; omega, fun M hM => ?_⟩, by simp; omega, by simp; omega, ?_⟩
    · simp only [List.length_append, List.length_singleton]
      rcases List.mem_append.1 hx with h1 | h1
      · have := h.o.ec x h1; omega
      · simp at h1
        rcases h1 with rfl | rfl <;> simp <;> omega
    · simp only [List.length_append]
      rcases List.mem_append.1 hM with h1 | h1
      · have := h.o.ie M h1 i hi; omega
      · simp at h1; subst h1; cases hi
    · rcases List.mem_append.1 hM with h1 | h1
      · exact h.o.li M h1
      · simp at h1; subst h1; simp
    · have : Bk.tot (s.i ++ [[]]) = Bk.tot s.i := by simp [Bk.tot]
      simp only [this]; omega
theorem Wf.cl (h : Wf k s) (hk : k < 1000) (e t : Int) : Wf (k + 1) (Bk.cl s e t) := by
  unfold Bk.cl
  split
  · rename_i hq
    obtain ⟨q1, q2⟩ := clQ_yes hq
    obtain ⟨c, hc, hcl, -⟩ := h.here q1
    have hle := h.le
    have hls := h.ls
    have hlt := h.lt
    refine ⟨⟨h.o.lI, h.o.lG, fun x hx => ?_, fun M hM i hi => ?_, by simp; omega, h.o.ls, h.o.li⟩, by simp; omega, by simp; omega, by simp; omega⟩
    · rcases List.mem_append.1 hx with h1 | h1
      · exact h.o.ec x h1
      · simp at h1; subst h1; simp only [hc]; omega
    · have := h.o.ie M hM i hi
      simp only [List.length_append]
      omega
  · exact h.mono (by omega)
theorem Wf.dp (h : Wf k s) (e : Int) : Wf k (Bk.dp s e) := h.rl (Bk.drop_rl _ ⟨s.e, s.i, s.g⟩ e)
theorem Wf.move (h : Wf k s) (j t : Int) : Wf k { s with e := Ld.move s.e j t } ∧ (Ld.move s.e j t).length = s.e.length :=
  ⟨h.rl (Ld.move_rl ⟨s.e, s.i, s.g⟩ j t), (Ld.move_rl ⟨s.e, s.i, s.g⟩ j t).le⟩
theorem Wf.pt (h : Wf k s) (hk : k < 1000) (e n en : Int) : Wf (k + 1) (Bk.pt s e n en) := by
  unfold Bk.pt
  split
  · rename_i hq
    obtain ⟨q1, q2, q3⟩ := ptQ_yes hq
    split
    · split
      · exact h.mono (by omega)
      · exact (h.dp en).mono (by omega)
    · obtain ⟨c, hc, hcl, hi, hg, hl⟩ := h.here q1
      obtain ⟨hm, hml⟩ := h.move (Bk.pln n en).2 (-1)
      have hlt := h.lt
      refine hm.seti (Bk.its s e ++ [Bk.pln n en]) hi (fun i hi' => ?_) (by omega) (by omega) (by simp; omega)
      simp only [hml]
      rcases List.mem_append.1 hi' with h1 | h1
      · exact h.o.ie _ (List.mem_of_getElem? hi) i h1
      · simp at h1
        subst h1
        unfold Bk.pln
        rcases q3 with q3 | ⟨q3, q4⟩
        · rw [if_neg (by omega)]; simp only; omega
        · rw [if_pos q3]
          have := (may_yes q4).1
          unfold Ld.has at this
          simp only [Bool.and_eq_true, decide_eq_true_eq] at this
          exact this.2
  · exact h.mono (by omega)
theorem Wf.tk (h : Wf k s) (hk : k ≤ 1000) (e t : Int) : Wf k (Bk.tk s e t) := by
  unfold Bk.tk
  split
  · rename_i hq
    obtain ⟨q1, q2, q3⟩ := tkQ_yes hq
    obtain ⟨c, hc, hcl, hi, hg, hl⟩ := h.here q1
    cases hM : Bk.its s e with
    | nil => exact h
    | cons x M =>
      rw [hM] at hi
      obtain ⟨hm, hml⟩ := h.move x.2 t
      have hlt := h.lt
      refine hm.seti M hi (fun i hi' => ?_) (Nat.le_refl _) hk (by simp; omega)
      simp only [hml]
      exact h.o.ie _ (List.mem_of_getElem? hi) i (List.mem_cons_of_mem _ hi')
  · exact h
end
/-- Which step. -/
def Bk.dig (d : Int) : Nat := (wrap64 ((IntKind.u64.wrap d).tmod 10)).toNat
theorem Bk.dig_lt (d : Int) : Bk.dig d < 10 ∧ wrap64 ((IntKind.u64.wrap d).tmod 10) = (Bk.dig d : Int) := by
  unfold Bk.dig
  have h0' : 0 ≤ IntKind.u64.wrap d := by rw [IntKind.wrap_u64]; omega
  have h1 := Int.tmod_eq_emod_of_nonneg (b := 10) h0'
  rw [h1]
  have h2 := Int.emod_nonneg (IntKind.u64.wrap d) (show (10 : Int) ≠ 0 by decide)
  have h3 := Int.emod_lt_of_pos (IntKind.u64.wrap d) (show (0 : Int) < 10 by decide)
  have h4 : wrap64 (IntKind.u64.wrap d % 10) = IntKind.u64.wrap d % 10 := by unfold wrap64; omega
  rw [h4]
  omega
theorem tmod2 (t : Int) : t.tmod 2 = 0 ∨ t.tmod 2 = 1 ∨ t.tmod 2 = -1 := by
  rcases Int.le_total 0 t with h | h
  · have := Int.tmod_eq_emod_of_nonneg (b := 2) h
    omega
  · have := Int.tmod_eq_emod_of_nonneg (a := -t) (b := 2) (by omega)
    rw [Int.neg_tmod] at this
    omega
/-- A number's mark. -/
def Bk.en0 (t : Int) : Int := min (-1) (-1 - t.tmod 2)
def Bk.en (t n : Int) (g : Bool) : Int := if g then n else Bk.en0 t
def Bk.op (m : Nat) (e t n : Int) (g : Bool) (s : Cst) : Cst :=
  if m = 0 then Bk.mk s n t else if m = 1 then Bk.cl s e t else if m < 5 then Bk.pt s e n (Bk.en t n g) else if m < 8 then Bk.tk s e t else Bk.dp s e
theorem Wf.op {k : Nat} {s : Cst} (h : Wf k s) (hk : k < 1000) (m : Nat) (e t n : Int) (g : Bool) : Wf (k + 1) (Bk.op m e t n g s) := by
  unfold Bk.op
  split
  · exact h.mke hk n t
  · split
    · exact h.cl hk e t
    · split
      · exact h.pt hk e n _
      · split
        · exact (h.tk (by omega) e t).mono (by omega)
        · exact (h.dp e).mono (by omega)
/-- Store and book were changed. -/
def DN (F1 F2 : Nat → Prop) (B : Nat) (w : World) (q b : Nat) (s1 s2 : Cst) (w' : World) : Prop := ∃ F1' F2' : Nat → Prop, SX F1' B w' q s1 ∧ BX F2' B w' b s2 ∧ (∀ x, F1' x → ¬ F2' x) ∧ Kx (fun x => ¬ F1 x ∧ ¬ F2 x) w w' ∧ (∀ x, F1' x → F1 x ∨ w.heap.size ≤ x) ∧ (∀ x, F2' x → F2 x ∨ w.heap.size ≤ x)
theorem BX.behind {F1 F2 : Nat → Prop} {B : Nat} {w w1 w2 : World} {q b : Nat} {s1 s2 : Cst} (h2 : BX F2 B w b s2) (hd : ∀ x, F1 x → ¬ F2 x) (hb1 : Below w.heap.size w w1) (u1 : US F1 B w1 q s1 w2) : BX F2 B w2 b s2 := by
  obtain ⟨F1', -, k1, -⟩ := u1
  exact (h2.keep (Kx.of_below hb1)).keep (k1.mono (fun x _ hx h1 => hd x h1 hx))
theorem DN.two {F1 F2 : Nat → Prop} {B : Nat} {w w1 w2 w3 w4 w5 : World} {q b : Nat} {s1 s2 s2' : Cst} (h2 : BX F2 B w b s2) (hd : ∀ x, F1 x → ¬ F2 x) (hb1 : Below w.heap.size w w1) (u1 : US F1 B w1 q s1 w2) (hb2 : Below w2.heap.size w2 w3) (u2 : UB F2 B w3 b s2' w4) (hb3 : Below w4.heap.size w4 w5) : DN F1 F2 B w q b s1 s2' w5 := by
  have hl2 := h2.lt
  obtain ⟨F1', x1, k1, g1⟩ := u1
  obtain ⟨F2', x2, k2, g2⟩ := u2
  have hs1 := hb1.size
  have hs2 := hb2.size
  have x1lt := x1.lt
  have hF1 : ∀ x, F1' x → ¬ F2 x := fun x hx h => by
    rcases g1 x hx with h1 | h1
    · exact hd x h1 h
    · have := (hl2 x h).2; omega
  have hk1s := k1.size
  refine ⟨F1', F2', ((x1.keep (Kx.of_below hb2)).keep (k2.mono (fun x _ hx => hF1 x hx))).keep (Kx.of_below hb3), x2.keep (Kx.of_below hb3), fun x hx h => ?_, ?_, fun x hx => (g1 x hx).imp id (fun h => by omega), fun x hx => (g2 x hx).imp id (fun h => by omega)⟩
  · rcases g2 x h with h1 | h1
    · exact hF1 x hx h1
    · have := (x1lt x hx).2; omega
  · exact ((((Kx.of_below hb1).step k1 (fun x _ hx => hx.1)).step (Kx.of_below (X := fun _ => True) hb2) (fun _ _ _ => trivial)).step k2 (fun x _ hx => hx.2)).step (Kx.of_below (X := fun _ => True) hb3) (fun _ _ _ => trivial)
end Go.Proofs.Ytbepaimbbclejaa

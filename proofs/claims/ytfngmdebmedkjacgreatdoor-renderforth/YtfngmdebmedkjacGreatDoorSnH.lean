import Derived.Test.YtfngmdebmedkjacGreatDoorSnG
import Derived.Test.YtfngmdebmedkjacGreatDoorSynV
import Derived.Test.YtfngmdebmedkjacGreatDoorPlA
/- A statement in a variable of its own. -/
namespace Go.Proofs.YtfngmdebmedkjacGreatDoor
open Go.RowKit

theorem Post.ret {α : Type} {c : Cx} {S : List Nat} {w w' : World} {enc : World → α → Value → Prop} {r : Sx.Rs α} {v : Value} (h : Post c S w enc r (.returned v) w') : ∃ x s n, r = .inl (x, s, c.full.drop n) ∧ enc w' x v ∧ RD c w' n s ∧ Kp S w w' := by
  rcases r with ⟨x, s, ts⟩ | ⟨code, p, rest⟩
  · obtain ⟨v', n, he, h1, h2, h3, h4⟩ := h
    cases he
    exact ⟨x, s, n, by rw [h2], h1, h3, h4⟩
  · exact absurd h.1 (by simp)
theorem Post.pan {α : Type} {c : Cx} {S : List Nat} {w w' : World} {enc : World → α → Value → Prop} {r : Sx.Rs α} {ch : List PanicEntry} (h : Post c S w enc r (.panicked ch) w') : ∃ code p rest, r = .inr (code, p, rest) ∧ ch = gv code p ∧ Kp S w w' := by
  rcases r with ⟨x, s, ts⟩ | ⟨code, p, rest⟩
  · obtain ⟨v', n, he, _⟩ := h
    cases he
  · obtain ⟨he, hk⟩ := h
    cases he
    exact ⟨code, p, rest, rfl, rfl, hk⟩

structure S9 (w : World) (b : Nat) (D at' : Int) (A B T : ByteArray) (N : Int) (uE uB uL : Value) : Prop where
  c0 : w.cell? ⟨b, 0, none⟩ = some (.int .i64 D)
  c1 : w.cell? ⟨b, 1, none⟩ = some (.int .i64 at')
  c2 : w.cell? ⟨b, 2, none⟩ = some (.string A)
  c3 : w.cell? ⟨b, 3, none⟩ = some (.string B)
  c4 : w.cell? ⟨b, 4, none⟩ = some (.string T)
  c5 : w.cell? ⟨b, 5, none⟩ = some (.int .i64 N)
  c6 : w.cell? ⟨b, 6, none⟩ = some uE
  c7 : w.cell? ⟨b, 7, none⟩ = some uB
  c8 : w.cell? ⟨b, 8, none⟩ = some uL
  fz : ∀ o, w.frozen? ⟨b, o, none⟩ = false
section
variable {w w' : World} {S : List Nat} {b : Nat} {D at' : Int} {A B T : ByteArray} {N : Int} {uE uB uL : Value}
theorem S9.lt (h : S9 w b D at' A B T N uE uB uL) : b < w.heap.size := World.block_lt_of_cell? w ⟨b, 0, none⟩ h.c0
theorem S9.keep (h : S9 w b D at' A B T N uE uB uL) (k : Kp S w w') (hn : b ∉ S) : S9 w' b D at' A B T N uE uB uL :=
  ⟨k.some h.c0 hn, k.some h.c1 hn, k.some h.c2 hn, k.some h.c3 hn, k.some h.c4 hn, k.some h.c5 hn, k.some h.c6 hn, k.some h.c7 hn, k.some h.c8 hn, fun o => (k.frozen (p := ⟨b, o, none⟩) h.lt hn).trans (h.fz o)⟩
theorem S9.setA (h : S9 w b D at' A B T N uE uB uL) (x : ByteArray) : S9 (w.setCell ⟨b, 2, none⟩ (.string x)) b D at' x B T N uE uB uL :=
  ⟨(cell_off _ _ _ _ _ (by decide)).trans h.c0, (cell_off _ _ _ _ _ (by decide)).trans h.c1, by rw [World.cell?_setCell_same (h := h.c2)], (cell_off _ _ _ _ _ (by decide)).trans h.c3, (cell_off _ _ _ _ _ (by decide)).trans h.c4, (cell_off _ _ _ _ _ (by decide)).trans h.c5, (cell_off _ _ _ _ _ (by decide)).trans h.c6, (cell_off _ _ _ _ _ (by decide)).trans h.c7, (cell_off _ _ _ _ _ (by decide)).trans h.c8, fun o => by simpa using h.fz o⟩
theorem S9.setB (h : S9 w b D at' A B T N uE uB uL) (x : ByteArray) : S9 (w.setCell ⟨b, 3, none⟩ (.string x)) b D at' A x T N uE uB uL :=
  ⟨(cell_off _ _ _ _ _ (by decide)).trans h.c0, (cell_off _ _ _ _ _ (by decide)).trans h.c1, (cell_off _ _ _ _ _ (by decide)).trans h.c2, by rw [World.cell?_setCell_same (h := h.c3)], (cell_off _ _ _ _ _ (by decide)).trans h.c4, (cell_off _ _ _ _ _ (by decide)).trans h.c5, (cell_off _ _ _ _ _ (by decide)).trans h.c6, (cell_off _ _ _ _ _ (by decide)).trans h.c7, (cell_off _ _ _ _ _ (by decide)).trans h.c8, fun o => by simpa using h.fz o⟩
theorem S9.setT (h : S9 w b D at' A B T N uE uB uL) (x : ByteArray) : S9 (w.setCell ⟨b, 4, none⟩ (.string x)) b D at' A B x N uE uB uL :=
  ⟨(cell_off _ _ _ _ _ (by decide)).trans h.c0, (cell_off _ _ _ _ _ (by decide)).trans h.c1, (cell_off _ _ _ _ _ (by decide)).trans h.c2, (cell_off _ _ _ _ _ (by decide)).trans h.c3, by rw [World.cell?_setCell_same (h := h.c4)], (cell_off _ _ _ _ _ (by decide)).trans h.c5, (cell_off _ _ _ _ _ (by decide)).trans h.c6, (cell_off _ _ _ _ _ (by decide)).trans h.c7, (cell_off _ _ _ _ _ (by decide)).trans h.c8, fun o => by simpa using h.fz o⟩
theorem S9.setN (h : S9 w b D at' A B T N uE uB uL) (x : Int) : S9 (w.setCell ⟨b, 5, none⟩ (.int .i64 x)) b D at' A B T x uE uB uL :=
  ⟨(cell_off _ _ _ _ _ (by decide)).trans h.c0, (cell_off _ _ _ _ _ (by decide)).trans h.c1, (cell_off _ _ _ _ _ (by decide)).trans h.c2, (cell_off _ _ _ _ _ (by decide)).trans h.c3, (cell_off _ _ _ _ _ (by decide)).trans h.c4, by rw [World.cell?_setCell_same (h := h.c5)], (cell_off _ _ _ _ _ (by decide)).trans h.c6, (cell_off _ _ _ _ _ (by decide)).trans h.c7, (cell_off _ _ _ _ _ (by decide)).trans h.c8, fun o => by simpa using h.fz o⟩
theorem S9.setE (h : S9 w b D at' A B T N uE uB uL) (x : Value) : S9 (w.setCell ⟨b, 6, none⟩ x) b D at' A B T N x uB uL :=
  ⟨(cell_off _ _ _ _ _ (by decide)).trans h.c0, (cell_off _ _ _ _ _ (by decide)).trans h.c1, (cell_off _ _ _ _ _ (by decide)).trans h.c2, (cell_off _ _ _ _ _ (by decide)).trans h.c3, (cell_off _ _ _ _ _ (by decide)).trans h.c4, (cell_off _ _ _ _ _ (by decide)).trans h.c5, by rw [World.cell?_setCell_same (h := h.c6)], (cell_off _ _ _ _ _ (by decide)).trans h.c7, (cell_off _ _ _ _ _ (by decide)).trans h.c8, fun o => by simpa using h.fz o⟩
theorem S9.setBody (h : S9 w b D at' A B T N uE uB uL) (x : Value) : S9 (w.setCell ⟨b, 7, none⟩ x) b D at' A B T N uE x uL :=
  ⟨(cell_off _ _ _ _ _ (by decide)).trans h.c0, (cell_off _ _ _ _ _ (by decide)).trans h.c1, (cell_off _ _ _ _ _ (by decide)).trans h.c2, (cell_off _ _ _ _ _ (by decide)).trans h.c3, (cell_off _ _ _ _ _ (by decide)).trans h.c4, (cell_off _ _ _ _ _ (by decide)).trans h.c5, (cell_off _ _ _ _ _ (by decide)).trans h.c6, by rw [World.cell?_setCell_same (h := h.c7)], (cell_off _ _ _ _ _ (by decide)).trans h.c8, fun o => by simpa using h.fz o⟩
theorem S9.setElse (h : S9 w b D at' A B T N uE uB uL) (x : Value) : S9 (w.setCell ⟨b, 8, none⟩ x) b D at' A B T N uE uB x :=
  ⟨(cell_off _ _ _ _ _ (by decide)).trans h.c0, (cell_off _ _ _ _ _ (by decide)).trans h.c1, (cell_off _ _ _ _ _ (by decide)).trans h.c2, (cell_off _ _ _ _ _ (by decide)).trans h.c3, (cell_off _ _ _ _ _ (by decide)).trans h.c4, (cell_off _ _ _ _ _ (by decide)).trans h.c5, (cell_off _ _ _ _ _ (by decide)).trans h.c6, (cell_off _ _ _ _ _ (by decide)).trans h.c7, by rw [World.cell?_setCell_same (h := h.c8)], fun o => by simpa using h.fz o⟩
theorem S9.new (w : World) (D at' : Int) (A B T : ByteArray) (N : Int) (uE uB uL : Value) (t : TypeId) : S9 (w.alloc (.cells #[.int .i64 D, .int .i64 at', .string A, .string B, .string T, .int .i64 N, uE, uB, uL] t)) w.heap.size D at' A B T N uE uB uL :=
  ⟨by simp [go_sem], by simp [go_sem], by simp [go_sem], by simp [go_sem], by simp [go_sem], by simp [go_sem], by simp [go_sem], by simp [go_sem], by simp [go_sem], fun o => by simp [go_sem]⟩
end

/-- A statement with blocks, behind its word. -/
def Sx.nest (e f d : Nat) (s : Sx.St) (ts : List Tk.Tok) : Sx.Rs (Sx.Flds × List Sx.Tr × List Sx.Tr) :=
  Sx.bnd (Sx.nestA e f d s ts) fun x s r => Sx.bnd (Sx.ps e f 0 [] s r) fun body s r =>
    Sx.bnd (if (d = 11 ∨ d = 14) ∧ Sx.txt r = Sx.wElse then Sx.bnd (Sx.skp e Sx.wElse s r) fun _ s r => Sx.ps e f 0 [] s r else .inl ([], s, r)) fun els s r => .inl ((x, body, els), s, r)
theorem Sx.bnd_bnd {α β γ : Type} (m : Sx.Rs α) (k : α → Sx.St → List Tk.Tok → Sx.Rs β) (l : β → Sx.St → List Tk.Tok → Sx.Rs γ) : Sx.bnd (Sx.bnd m k) l = Sx.bnd m fun x s r => Sx.bnd (k x s r) l := by
  rcases m with ⟨x, s, r⟩ | f <;> rfl

/-- What stands in a statement's variable behind its word. -/
def encF (w0 : World) (sb : Nat) (D at' : Int) (w' : World) (x : Sx.Flds) (v : Value) : Prop :=
  v = .tuple #[] ∧ ∃ m a cap, S9 w' sb D at' (bs x.A) (bs x.B) (bs x.T) x.n (.slice a x.E.length cap) (.slice none 0 0) (.slice none 0 0) ∧ EL w' (fun b => w0.heap.size ≤ b) m x.E (.slice a x.E.length cap)
def encB (w0 : World) (sb : Nat) (D at' : Int) (w' : World) (x : Sx.Flds × List Sx.Tr × List Sx.Tr) (v : Value) : Prop :=
  v = .tuple #[] ∧ ∃ m a cap a1 cap1 a2 cap2, S9 w' sb D at' (bs x.1.A) (bs x.1.B) ⟨#[]⟩ 0 (.slice a x.1.E.length cap) (.slice a1 x.2.1.length cap1) (.slice a2 x.2.2.length cap2) ∧
    EL w' (fun b => w0.heap.size ≤ b) m x.1.E (.slice a x.1.E.length cap) ∧ SL w' (fun b => w0.heap.size ≤ b) m x.2.1 (.slice a1 x.2.1.length cap1) ∧ SL w' (fun b => w0.heap.size ≤ b) m x.2.2 (.slice a2 x.2.2.length cap2)
/-- What is read of blocks. -/
def encL (w0 : World) (w' : World) (l : List Sx.Tr) (v : Value) : Prop := ∃ m, SL w' (fun b => w0.heap.size ≤ b) m l v
def encSt (w0 : World) (w' : World) (l : List Sx.Tr) (v : Value) : Prop := ∃ m d D at' A B T N u0 u1 u2, l = [d] ∧ v = .agg #[.int .i64 D, .int .i64 at', .string A, .string B, .string T, .int .i64 N, u0, u1, u2] ∧
  (∃ a n cap, u0 = .slice a n cap) ∧ (∃ a n cap, u1 = .slice a n cap) ∧ (∃ a n cap, u2 = .slice a n cap) ∧
  RS w' (fun b => w0.heap.size ≤ b) m d [.int .i64 D, .int .i64 at', .string A, .string B, .string T, .int .i64 N, u0, u1, u2]
def CB (f : Nat) : Prop := ∀ (c : Cx) (w : World) (n : Nat) (s : Sx.St), RD c w n s → ¬ Dry (Sx.ps c.e f 0 [] s (c.full.drop n)) →
  Calls Tryz.prog 145 #[.pointer (some ⟨c.rb, 0, none⟩)] w (Post c [c.rb] w (encL w) (Sx.ps c.e f 0 [] s (c.full.drop n)))
def CS (f : Nat) : Prop := ∀ (c : Cx) (w : World) (n : Nat) (s : Sx.St), RD c w n s → ¬ Dry (Sx.ps c.e f 1 [] s (c.full.drop n)) →
  Calls Tryz.prog 169 #[.pointer (some ⟨c.rb, 0, none⟩)] w (Post c [c.rb] w (encSt w) (Sx.ps c.e f 1 [] s (c.full.drop n)))
/-- The variable lies apart from the reader. -/
def Cx.apart (c : Cx) (sb : Nat) : Prop := c.rb ≠ sb ∧ (c.full ≠ [] → c.tb ≠ sb)
theorem RD.set_apart {c : Cx} {w : World} {n : Nat} {s : Sx.St} {sb : Nat} (h : RD c w n s) (hA : c.apart sb) (o : Nat) (v : Value) : RD c (w.setCell ⟨sb, o, none⟩ v) n s :=
  h.keep (S := [sb]) (Kp.rb (Kp.refl _ _) _ _) (by simpa using hA.1) (fun hne => by simpa using hA.2 hne)
end Go.Proofs.YtfngmdebmedkjacGreatDoor

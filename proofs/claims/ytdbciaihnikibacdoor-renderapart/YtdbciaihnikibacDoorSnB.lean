import Derived.Test.YtdbciaihnikibacDoorSnA
/- Contracts of the reader's small methods: what must stand there; the next token. -/
namespace Go.Proofs.YtdbciaihnikibacDoor
open Go.RowKit

theorem txt_lt {c : Cx} {n : Nat} {x : List UInt8} (h : Sx.txt (c.full.drop n) = x) (hx : x ≠ []) : n < c.full.length := by
  rcases Nat.lt_or_ge n c.full.length with h1 | h1
  · exact h1
  · rw [List.drop_eq_nil_of_le h1] at h
    exact absurd h.symm hx

def encK (_ : World) (t : Tk.Tok) (v : Value) : Prop := v = .agg #[.int .i64 t.kind, .int .i64 (t.at' : Int), .string (bs t.text), .int .i64 t.n]

end Go.Proofs.YtdbciaihnikibacDoor
/- Expressions in memory. -/
namespace Go.Proofs.YtdbciaihnikibacDoor
open Go.RowKit

/-- A list of expressions: a slice; each four cells, in blocks of which P holds. -/
def EL (w : World) (P : Nat → Prop) : Nat → List Sx.Tr → Value → Prop
  | 0, _, _ => False
  | n + 1, l, v => ∃ a cap, v = .slice a l.length cap ∧ (l = [] ∨ ∃ b off, a = some ⟨b, off, none⟩ ∧ P b ∧ ∀ (i : Nat) d, l[i]? = some d → ∃ op nm k L u,
      d = Sx.tE op nm k L ∧ w.cell? ⟨b, off + i * 4, none⟩ = some (.int .i64 op) ∧ w.cell? ⟨b, off + i * 4 + 1, none⟩ = some (.string (bs nm)) ∧
        w.cell? ⟨b, off + i * 4 + 2, none⟩ = some (.int .i64 k) ∧ w.cell? ⟨b, off + i * 4 + 3, none⟩ = some u ∧ EL w P n L u)
theorem EL.slice {w : World} {P : Nat → Prop} {n : Nat} {l : List Sx.Tr} {v : Value} (h : EL w P n l v) : ∃ a cap, v = .slice a l.length cap := by
  cases n with
  | zero => cases h
  | succ n => obtain ⟨a, cap, hv, _⟩ := h; exact ⟨a, cap, hv⟩
theorem EL.keep {w w' : World} {S : List Nat} {P : Nat → Prop} {n : Nat} {l : List Sx.Tr} {v : Value} (h : EL w P n l v) (hk : Kp S w w') (hS : ∀ k, k ∈ S → ¬ P k) : EL w' P n l v := by
  induction n generalizing l v with
  | zero => cases h
  | succ n ih =>
    obtain ⟨a, cap, hv, h⟩ := h
    refine ⟨a, cap, hv, h.imp id ?_⟩
    rintro ⟨b, off, ha, hB, hc⟩
    refine ⟨b, off, ha, hB, fun i d hd => ?_⟩
    obtain ⟨op, nm, k, L, u, h1, h2, h3, h4, h5, h6⟩ := hc i d hd
    have hn : b ∉ S := fun hm => hS b hm hB
    exact ⟨op, nm, k, L, u, h1, hk.some h2 hn, hk.some h3 hn, hk.some h4 hn, hk.some h5 hn, ih h6⟩
theorem EL.base {w : World} {P P' : Nat → Prop} {n : Nat} {l : List Sx.Tr} {v : Value} (h : EL w P n l v) (hP : ∀ b, b < w.heap.size → P b → P' b) : EL w P' n l v := by
  induction n generalizing l v with
  | zero => cases h
  | succ n ih =>
    obtain ⟨a, cap, hv, h⟩ := h
    refine ⟨a, cap, hv, ?_⟩
    rcases h with h | ⟨b, off, ha, hb, hc⟩
    · exact .inl h
    · cases l with
      | nil => exact .inl rfl
      | cons d0 l0 =>
        refine .inr ⟨b, off, ha, ?_, fun i d hd => ?_⟩
        · obtain ⟨op, nm, k, L, u, h1, h2, _⟩ := hc 0 d0 rfl
          exact hP b (World.block_lt_of_cell? w _ h2) hb
        · obtain ⟨op, nm, k, L, u, h1, h2, h3, h4, h5, h6⟩ := hc i d hd
          exact ⟨op, nm, k, L, u, h1, h2, h3, h4, h5, ih h6⟩
theorem EL.more {w : World} {P : Nat → Prop} {n : Nat} {l : List Sx.Tr} {v : Value} (m : Nat) (h : EL w P n l v) : EL w P (n + m) l v := by
  induction n generalizing l v with
  | zero => cases h
  | succ n ih =>
    rw [show n + 1 + m = n + m + 1 from by omega]
    obtain ⟨a, cap, hv, h⟩ := h
    refine ⟨a, cap, hv, h.imp id ?_⟩
    rintro ⟨b, off, ha, hb, hc⟩
    refine ⟨b, off, ha, hb, fun i d hd => ?_⟩
    obtain ⟨op, nm, k, L, u, h1, h2, h3, h4, h5, h6⟩ := hc i d hd
    exact ⟨op, nm, k, L, u, h1, h2, h3, h4, h5, ih h6⟩
/-- An expression as a value. -/
def EV (w : World) (P : Nat → Prop) (d : Sx.Tr) (v : Value) : Prop := ∃ n op nm k L a cap, d = Sx.tE op nm k L ∧ v = .agg #[.int .i64 op, .string (bs nm), .int .i64 k, .slice a L.length cap] ∧ EL w P n L (.slice a L.length cap)
theorem EV.keep {w w' : World} {S : List Nat} {P : Nat → Prop} {d : Sx.Tr} {v : Value} (h : EV w P d v) (hk : Kp S w w') (hS : ∀ k, k ∈ S → ¬ P k) : EV w' P d v := by
  obtain ⟨n, op, nm, k, L, a, cap, h1, h2, h3⟩ := h
  exact ⟨n, op, nm, k, L, a, cap, h1, h2, h3.keep hk hS⟩
theorem EV.base {w : World} {P P' : Nat → Prop} {d : Sx.Tr} {v : Value} (h : EV w P d v) (hB : ∀ b, b < w.heap.size → P b → P' b) : EV w P' d v := by
  obtain ⟨n, op, nm, k, L, a, cap, h1, h2, h3⟩ := h
  exact ⟨n, op, nm, k, L, a, cap, h1, h2, h3.base hB⟩
theorem EL.nil (w : World) (P : Nat → Prop) (a : Option Addr) (cap : Nat) : EL w P 1 [] (.slice a 0 cap) := ⟨a, cap, rfl, .inl rfl⟩
/-- No parts. -/
theorem EV.leaf (w : World) (P : Nat → Prop) (op : Int) (nm : List UInt8) (k : Int) : EV w P (Sx.tE op nm k []) (.agg #[.int .i64 op, .string (bs nm), .int .i64 k, .slice none 0 0]) :=
  ⟨1, op, nm, k, [], none, 0, rfl, rfl, EL.nil _ _ _ _⟩
/-- The four cells of a value. -/
theorem EV.open {w : World} {P : Nat → Prop} {d : Sx.Tr} {v : Value} (h : EV w P d v) : ∃ n op nm k L a len cap, len = L.length ∧ d = Sx.tE op nm k L ∧ v = .agg #[.int .i64 op, .string (bs nm), .int .i64 k, .slice a len cap] ∧ EL w P n L (.slice a len cap) := by
  obtain ⟨n, op, nm, k, L, a, cap, h1, h2, h3⟩ := h
  exact ⟨n, op, nm, k, L, a, _, cap, rfl, h1, h2, h3⟩
theorem EL.one {w : World} {P : Nat → Prop} {n b off cap : Nat} {O K : Int} {nm : List UInt8} {L : List Sx.Tr} {u : Value} (hB : P b)
    (h0 : w.cell? ⟨b, off, none⟩ = some (.int .i64 O)) (h1 : w.cell? ⟨b, off + 1, none⟩ = some (.string (bs nm))) (h2 : w.cell? ⟨b, off + 2, none⟩ = some (.int .i64 K)) (h3 : w.cell? ⟨b, off + 3, none⟩ = some u)
    (h : EL w P n L u) : EL w P (n + 1) [Sx.tE O nm K L] (.slice (some ⟨b, off, none⟩) 1 cap) := by
  refine ⟨_, cap, rfl, .inr ⟨b, off, rfl, hB, fun i d hd => ?_⟩⟩
  match i, hd with
  | 0, hd =>
    simp at hd
    exact ⟨O, nm, K, L, u, hd.symm, by simpa using h0, by simpa using h1, by simpa using h2, by simpa using h3, h⟩
theorem EL.two {w : World} {P : Nat → Prop} {n b cap : Nat} {O1 K1 O2 K2 : Int} {nm1 nm2 : List UInt8} {L1 L2 : List Sx.Tr} {u1 u2 : Value} (hB : P b)
    (h0 : w.cell? ⟨b, 0, none⟩ = some (.int .i64 O1)) (h1 : w.cell? ⟨b, 1, none⟩ = some (.string (bs nm1))) (h2 : w.cell? ⟨b, 2, none⟩ = some (.int .i64 K1)) (h3 : w.cell? ⟨b, 3, none⟩ = some u1)
    (h4 : w.cell? ⟨b, 4, none⟩ = some (.int .i64 O2)) (h5 : w.cell? ⟨b, 5, none⟩ = some (.string (bs nm2))) (h6 : w.cell? ⟨b, 6, none⟩ = some (.int .i64 K2)) (h7 : w.cell? ⟨b, 7, none⟩ = some u2)
    (h : EL w P n L1 u1) (h' : EL w P n L2 u2) : EL w P (n + 1) [Sx.tE O1 nm1 K1 L1, Sx.tE O2 nm2 K2 L2] (.slice (some ⟨b, 0, none⟩) 2 cap) := by
  refine ⟨_, cap, rfl, .inr ⟨b, 0, rfl, hB, fun i d hd => ?_⟩⟩
  match i, hd with
  | 0, hd =>
    simp at hd
    exact ⟨O1, nm1, K1, L1, u1, hd.symm, by simpa using h0, by simpa using h1, by simpa using h2, by simpa using h3, h⟩
  | 1, hd =>
    simp at hd
    exact ⟨O2, nm2, K2, L2, u2, hd.symm, by simpa using h4, by simpa using h5, by simpa using h6, by simpa using h7, h'⟩

end Go.Proofs.YtdbciaihnikibacDoor

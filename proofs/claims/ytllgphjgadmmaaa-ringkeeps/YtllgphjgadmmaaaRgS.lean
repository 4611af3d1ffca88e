import Derived.Test.YtllgphjgadmmaaaRgB
import Derived.Deep.AppendLies
/- Rings of texts: what is asked of package ring; what the law RingKeeps keeps. -/
namespace Go.Proofs.Ytllgphjgadmmaaa
open Go.RowKit

/-- A row of texts that can be read. -/
def TRw (w : World) (v : Value) (L : List ByteArray) : Prop :=
  ∃ a c, v = .slice a L.length c ∧ (L ≠ [] → ∃ g o, a = some ⟨g, o, none⟩ ∧ ∀ (k : Nat) x, L[k]? = some x → w.cell? ⟨g, o + k, none⟩ = some (.string x))
theorem TRw.keep {w w' : World} {v : Value} {L : List ByteArray} (h : TRw w v L) (hb : Below w.heap.size w w') : TRw w' v L := by
  obtain ⟨a, c, h1, h2⟩ := h
  refine ⟨a, c, h1, fun hn => ?_⟩
  obtain ⟨g, o, h3, h4⟩ := h2 hn
  exact ⟨g, o, h3, fun k x hx => bsome hb (h4 k x hx)⟩
def fullT (s : Nat) (M : List ByteArray) : Bool := decide (0 < s) && decide (s ≤ M.length)
/-- What is asked of a ring of texts: as RingOK. -/
structure RingOT (RI : (Nat → Prop) → World → Nat → Nat → List ByteArray → Prop) : Prop where
  lt : ∀ {F w p s M}, RI F w p s M → ∀ b, F b → b < w.heap.size
  keep : ∀ {F w w' p s M}, RI F w p s M → Kx F w w' → RI F w' p s M
  new : ∀ (n : Int) (w : World), Calls Try.prog 15 #[.int .i64 n] w fun e w' => ∃ (p : Nat) (F : Nat → Prop), e = .returned (.pointer (some ⟨p, 0, none⟩)) ∧ RI F w' p n.toNat [] ∧ Below w.heap.size w w' ∧ ∀ b, F b → w.heap.size ≤ b
  len : ∀ {F w p s M}, RI F w p s M → Calls Try.prog 17 #[.pointer (some ⟨p, 0, none⟩)] w fun e w' => e = .returned (.int .i64 (M.length : Int)) ∧ w' = w
  put : ∀ {F w p s M} (x : ByteArray), RI F w p s M → M.length ≤ 1000 → Calls Try.prog 16 #[.pointer (some ⟨p, 0, none⟩), .string x] w fun e w' => e = .returned (.bool (!fullT s M)) ∧ ∃ F' : Nat → Prop, RI F' w' p s (if fullT s M then M else M ++ [x]) ∧ Kx (fun b => ¬ F b) w w' ∧ ∀ b, F' b → F b ∨ w.heap.size ≤ b
  take : ∀ {F w p s M}, RI F w p s M → Calls Try.prog 18 #[.pointer (some ⟨p, 0, none⟩)] w fun e w' => e = .returned (.tuple #[.string (M.headD ⟨#[]⟩), .bool (!M.isEmpty)]) ∧ ∃ F' : Nat → Prop, RI F' w' p s M.tail ∧ Kx (fun b => ¬ F b) w w' ∧ ∀ b, F' b → F b ∨ w.heap.size ≤ b
  all : ∀ {F w p s M}, RI F w p s M → M.length ≤ 1000 → Calls Try.prog 19 #[.pointer (some ⟨p, 0, none⟩)] w fun e w' => ∃ a c, e = .returned (.slice a M.length c) ∧ (M ≠ [] → ∃ g o, a = some ⟨g, o, none⟩ ∧ ∀ (k : Nat) x, M[k]? = some x → w'.cell? ⟨g, o + k, none⟩ = some (.string x)) ∧ Below w.heap.size w w'
theorem own_keepg {t z B : Nat} {w w' : World} {v : Value} {n : Nat} {xs : List Value} (h : w.ownsRow B t z v n xs) (hk : ∀ g, v.ownBlock = some g → w'.heap[g]? = w.heap[g]?) : w'.ownsRow B t z v n xs := by
  refine ⟨h.1, ?_⟩
  rcases h.2 with h0 | ⟨g, cap, cur, hv, hb, hg, rest⟩
  · exact .inl h0
  · exact .inr ⟨g, cap, cur, hv, hb, (hk g (by rw [hv]; rfl)).trans hg, rest⟩
/-- A ring, what was put and what was taken. -/
structure KT (RI : (Nat → Prop) → World → Nat → Nat → List ByteArray → Prop) (w0 w : World) (p s : Nat) (F : Nat → Prop) (R P G : List ByteArray) (pv gv : Value) : Prop where
  ri : RI F w p s R
  po : w.ownsRow w0.heap.size 9 1 pv P.length (P.map .string)
  go : w.ownsRow w0.heap.size 9 1 gv G.length (G.map .string)
  pf : ∀ b, pv.ownBlock = some b → ¬ F b ∧ gv.ownBlock ≠ some b
  gf : ∀ b, gv.ownBlock = some b → ¬ F b
  fo : ∀ b, F b → w0.heap.size ≤ b
  bl : Below w0.heap.size w0 w
section
variable {RI : (Nat → Prop) → World → Nat → Nat → List ByteArray → Prop} {w0 w w' : World} {p s : Nat} {F F' : Nat → Prop} {R R' P G : List ByteArray} {pv gv : Value}
theorem KT.ring (h : KT RI w0 w p s F R P G pv gv) (hr : RI F' w' p s R') (hx : Kx (fun b => ¬ F b) w w') (hf : ∀ b, F' b → F b ∨ w.heap.size ≤ b) : KT RI w0 w' p s F' R' P G pv gv := by
  have hsz := h.bl.size
  have lp : ∀ b, pv.ownBlock = some b → b < w.heap.size := fun b hb => (h.po.lt b hb).2
  have lg : ∀ b, gv.ownBlock = some b → b < w.heap.size := fun b hb => (h.go.lt b hb).2
  refine ⟨hr, own_keepg h.po (fun b hb => hx.block b (lp b hb) (h.pf b hb).1), own_keepg h.go (fun b hb => hx.block b (lg b hb) (h.gf b hb)), fun b hb => ⟨fun hF => ?_, (h.pf b hb).2⟩, fun b hb hF => ?_, fun b hb => ?_, ?_⟩
  · rcases hf b hF with h1 | h1
    · exact (h.pf b hb).1 h1
    · have := lp b hb; omega
  · rcases hf b hF with h1 | h1
    · exact h.gf b hb h1
    · have := lg b hb; omega
  · rcases hf b hb with h1 | h1
    · exact h.fo b h1
    · omega
  · exact ((Kx.of_below (X := fun b => b < w0.heap.size) h.bl).trans (hx.mono (fun b _ hb hF => by have := h.fo b hF; omega))).below_of (fun _ hb => hb)
theorem KT.keep (h : KT RI w0 w p s F R P G pv gv) (C : RingOT RI) (hb : Below w.heap.size w w') : KT RI w0 w' p s F R P G pv gv :=
  h.ring (C.keep h.ri (Kx.of_below hb)) (Kx.of_below hb) (fun _ h => .inl h)
theorem KT.growP (h : KT RI w0 w p s F R P G pv gv) (C : RingOT RI) {pv' : Value} {x : ByteArray} (hg : w.grownBy w' pv.ownBlock) (ho : w'.ownsRow w0.heap.size 9 1 pv' (P.length + 1) (P.map .string ++ [.string x])) (hat : pv'.ownBlock = pv.ownBlock ∨ ∃ H, pv'.ownBlock = some H ∧ w.heap.size ≤ H) : KT RI w0 w' p s F R (P ++ [x]) G pv' gv := by
  have lg : ∀ b, gv.ownBlock = some b → b < w.heap.size := fun b hb => (h.go.lt b hb).2
  have hx : Kx (fun b => some b ≠ pv.ownBlock) w w' := ⟨hg.os, hg.tape, hg.output, hg.size, fun k hk hX => hg.block k hk hX⟩
  refine ⟨C.keep h.ri (hx.mono (fun b _ hb e => (h.pf b e.symm).1 hb)), by simpa using ho, own_keepg h.go (fun b hb => hx.block b (lg b hb) (fun e => (h.pf b e.symm).2 hb)), fun b hb => ?_, h.gf, h.fo, ?_⟩
  · rcases hat with ha | ⟨H, ha, hH⟩
    · exact h.pf b (by rw [← ha]; exact hb)
    · rw [ha] at hb
      cases hb
      exact ⟨fun hF => by have := C.lt h.ri _ hF; omega, fun e => by have := lg _ e; omega⟩
  · exact ((Kx.of_below (X := fun b => b < w0.heap.size) h.bl).trans (hx.mono (fun b _ hb e => by have := (h.po.lt b e.symm).1; omega))).below_of (fun _ hb => hb)
theorem KT.growG (h : KT RI w0 w p s F R P G pv gv) (C : RingOT RI) {gv' : Value} {xs : List ByteArray} (hg : w.grownBy w' gv.ownBlock) (ho : w'.ownsRow w0.heap.size 9 1 gv' (G.length + xs.length) (G.map .string ++ xs.map .string)) (hat : gv'.ownBlock = gv.ownBlock ∨ ∃ H, gv'.ownBlock = some H ∧ w.heap.size ≤ H) : KT RI w0 w' p s F R P (G ++ xs) pv gv' := by
  have lp : ∀ b, pv.ownBlock = some b → b < w.heap.size := fun b hb => (h.po.lt b hb).2
  have hx : Kx (fun b => some b ≠ gv.ownBlock) w w' := ⟨hg.os, hg.tape, hg.output, hg.size, fun k hk hX => hg.block k hk hX⟩
  refine ⟨C.keep h.ri (hx.mono (fun b _ hb e => h.gf b e.symm hb)), own_keepg h.po (fun b hb => hx.block b (lp b hb) (fun e => (h.pf b hb).2 e.symm)), by simpa using ho, fun b hb => ⟨(h.pf b hb).1, fun e => ?_⟩, fun b hb hF => ?_, h.fo, ?_⟩
  · rcases hat with ha | ⟨H, ha, hH⟩
    · exact (h.pf b hb).2 (by rw [← ha]; exact e)
    · rw [ha] at e
      cases e
      have := lp _ hb
      omega
  · rcases hat with ha | ⟨H, ha, hH⟩
    · exact h.gf b (by rw [← ha]; exact hb) hF
    · rw [ha] at hb
      cases hb
      have := C.lt h.ri _ hF
      omega
  · exact ((Kx.of_below (X := fun b => b < w0.heap.size) h.bl).trans (hx.mono (fun b _ hb e => by have := (h.go.lt b e.symm).1; omega))).below_of (fun _ hb => hb)
end
end Go.Proofs.Ytllgphjgadmmaaa

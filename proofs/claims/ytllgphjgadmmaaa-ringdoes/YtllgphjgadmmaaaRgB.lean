import Derived.Test.YtllgphjgadmmaaaRgA
/- Rings: what the law keeps of two of them. -/
namespace Go.Proofs.Ytllgphjgadmmaaa
open Go.RowKit

def upd {α : Type} (f : Nat → α) (k : Nat) (x : α) (j : Nat) : α := if j = k then x else f j
theorem upd_self {α : Type} (f : Nat → α) (k : Nat) (x : α) : upd f k x k = x := if_pos rfl
theorem upd_ne {α : Type} (f : Nat → α) {k j : Nat} (x : α) (h : j ≠ k) : upd f k x j = f j := if_neg h
/-- Two rings, what they hold (R), and two rows (V) with what these hold (M). -/
structure LS (RI : (Nat → Prop) → World → Nat → Nat → List Int → Prop) (w0 : World) (br bm bs : Nat) (w : World) (p s : Nat → Nat) (F : Nat → Nat → Prop) (R M : Nat → List Int) (V : Nat → Value) : Prop where
  rc : ∀ k, k < 2 → w.cell? ⟨br, k, none⟩ = some (.pointer (some ⟨p k, 0, none⟩))
  sc : ∀ k, k < 2 → w.cell? ⟨bs, k, none⟩ = some (.int .i64 (s k : Int))
  mc : ∀ k, k < 2 → w.cell? ⟨bm, k, none⟩ = some (V k)
  mt : ∀ k, w.frozen? ⟨bm, k, none⟩ = false
  ri : ∀ k, k < 2 → RI (F k) w (p k) (s k) (R k)
  row : ∀ k, k < 2 → OR w (V k) (M k)
  fd : ∀ j k b, j < 2 → k < 2 → j ≠ k → F j b → ¬ F k b
  fo : ∀ k b, k < 2 → F k b → w0.heap.size ≤ b ∧ b ≠ br ∧ b ≠ bm ∧ b ≠ bs
  vo : ∀ k b, k < 2 → (V k).ownBlock = some b → w0.heap.size ≤ b ∧ b ≠ br ∧ b ≠ bm ∧ b ≠ bs ∧ ∀ j, j < 2 → ¬ F j b
  vd : ∀ j k b, j < 2 → k < 2 → j ≠ k → (V j).ownBlock = some b → (V k).ownBlock ≠ some b
  n1 : w0.heap.size ≤ br ∧ w0.heap.size ≤ bm ∧ w0.heap.size ≤ bs
  n2 : br ≠ bm ∧ bm ≠ bs ∧ br ≠ bs
  bl : Below w0.heap.size w0 w
section
variable {RI : (Nat → Prop) → World → Nat → Nat → List Int → Prop} {w0 : World} {br bm bs : Nat} {w w' : World} {p s : Nat → Nat} {F : Nat → Nat → Prop} {R M : Nat → List Int} {V : Nat → Value}
theorem LS.lts (h : LS RI w0 br bm bs w p s F R M V) : br < w.heap.size ∧ bm < w.heap.size ∧ bs < w.heap.size :=
  ⟨World.block_lt_of_cell? _ _ (h.rc 0 (by decide)), World.block_lt_of_cell? _ _ (h.mc 0 (by decide)), World.block_lt_of_cell? _ _ (h.sc 0 (by decide))⟩
theorem LS.keep (h : LS RI w0 br bm bs w p s F R M V) (C : RingOK RI) (hb : Below w.heap.size w w') : LS RI w0 br bm bs w' p s F R M V :=
  ⟨fun k hk => bsome hb (h.rc k hk), fun k hk => bsome hb (h.sc k hk), fun k hk => bsome hb (h.mc k hk), fun k => (hb.frozen (p := ⟨bm, k, none⟩) h.lts.2.1).trans (h.mt k), fun k hk => C.keep (h.ri k hk) (Kx.of_below hb),
   fun k hk => (h.row k hk).keep (fun g hg => hb.block g ((h.row k hk).lt g hg)), h.fd, h.fo, h.vo, h.vd, h.n1, h.n2, h.bl.trans (hb.mono h.bl.size)⟩
/-- What is done to a ring. -/
theorem LS.ring (h : LS RI w0 br bm bs w p s F R M V) (C : RingOK RI) {k : Nat} (hk : k < 2) {F' : Nat → Prop} {L : List Int} (hr : RI F' w' (p k) (s k) L) (hx : Kx (fun b => ¬ F k b) w w') (hf : ∀ b, F' b → F k b ∨ w.heap.size ≤ b) :
    LS RI w0 br bm bs w' p s (upd F k F') (upd R k L) M V := by
  obtain ⟨l1, l2, l3⟩ := h.lts
  obtain ⟨m1, m2, m3⟩ := h.n1
  have hsz := h.bl.size
  have nf : ∀ b, b = br ∨ b = bm ∨ b = bs → ¬ F k b := fun b hb hF => by
    obtain ⟨-, h1, h2, h3⟩ := h.fo k b hk hF
    rcases hb with e | e | e <;> contradiction
  have nv : ∀ j b, j < 2 → (V j).ownBlock = some b → ¬ F k b := fun j b hj hv => (h.vo j b hj hv).2.2.2.2 k hk
  refine ⟨fun j hj => hx.cell (h.rc j hj) (nf br (.inl rfl)), fun j hj => hx.cell (h.sc j hj) (nf bs (.inr (.inr rfl))), fun j hj => hx.cell (h.mc j hj) (nf bm (.inr (.inl rfl))), fun j => (hx.frozen (p := ⟨bm, j, none⟩) l2 (nf bm (.inr (.inl rfl)))).trans (h.mt j), fun j hj => ?_, fun j hj => (h.row j hj).keepX hx (fun g hg => nv j g hj hg), fun i j b hi hj hij h1 h2 => ?_, fun j b hj h1 => ?_, fun j b hj hv => ?_, h.vd, h.n1, h.n2, ?_⟩
  · by_cases e : j = k
    · subst e
      rw [upd_self, upd_self]
      exact hr
    · rw [upd_ne _ _ e, upd_ne _ _ e]
      exact C.keep (h.ri j hj) (hx.mono (fun b _ hb => h.fd j k b hj hk e hb))
  · by_cases ei : i = k
    · subst ei
      rw [upd_self] at h1
      rw [upd_ne _ _ (fun e => hij e.symm)] at h2
      rcases hf b h1 with h3 | h3
      · exact h.fd i j b hi hj hij h3 h2
      · have := C.lt (h.ri j hj) b h2; omega
    · rw [upd_ne _ _ ei] at h1
      by_cases ej : j = k
      · subst ej
        rw [upd_self] at h2
        rcases hf b h2 with h3 | h3
        · exact h.fd i j b hi hj hij h1 h3
        · have := C.lt (h.ri i hi) b h1; omega
      · rw [upd_ne _ _ ej] at h2
        exact h.fd i j b hi hj hij h1 h2
  · by_cases e : j = k
    · subst e
      rw [upd_self] at h1
      rcases hf b h1 with h3 | h3
      · exact h.fo j b hj h3
      · exact ⟨by omega, by omega, by omega, by omega⟩
    · rw [upd_ne _ _ e] at h1
      exact h.fo j b hj h1
  · obtain ⟨a1, a2, a3, a4, a5⟩ := h.vo j b hj hv
    refine ⟨a1, a2, a3, a4, fun i hi h1 => ?_⟩
    by_cases e : i = k
    · subst e
      rw [upd_self] at h1
      rcases hf b h1 with h3 | h3
      · exact a5 i hi h3
      · have := (h.row j hj).lt b hv; omega
    · rw [upd_ne _ _ e] at h1
      exact a5 i hi h1
  · exact ((Kx.of_below (X := fun b => b < w0.heap.size) h.bl).trans (hx.mono (fun b _ hb hF => by have := (h.fo k b hk hF).1; omega))).below_of (fun _ hb => hb)
/-- What is done to a row: another one, and its place set. -/
theorem LS.rows (h : LS RI w0 br bm bs w p s F R M V) (C : RingOK RI) {k : Nat} (hk : k < 2) {w1 : World} {v' : Value} {L : List Int} (hr : OR w1 v' L) (hx : Kx (fun b => some b ≠ (V k).ownBlock) w w1) (hv : v'.ownBlock = none ∨ v'.ownBlock = (V k).ownBlock ∨ ∃ b, v'.ownBlock = some b ∧ w.heap.size ≤ b) :
    LS RI w0 br bm bs (w1.setCell ⟨bm, k, none⟩ v') p s F R (upd M k L) (upd V k v') := by
  obtain ⟨l1, l2, l3⟩ := h.lts
  obtain ⟨m1, m2, m3⟩ := h.n1
  obtain ⟨e1, e2, e3⟩ := h.n2
  have hsz := h.bl.size
  have hs1 := hx.size
  have nv : ∀ b, b = br ∨ b = bm ∨ b = bs → some b ≠ (V k).ownBlock := fun b hb e => by
    obtain ⟨-, h1, h2, h3, -⟩ := h.vo k b hk e.symm
    rcases hb with e | e | e <;> contradiction
  have hy : Kx (fun b => some b ≠ (V k).ownBlock ∧ b ≠ bm) w (w1.setCell ⟨bm, k, none⟩ v') := (hx.mono (Y := fun b => some b ≠ (V k).ownBlock ∧ b ≠ bm) (fun b _ hb => hb.1)).set (p := ⟨bm, k, none⟩) (.inr (fun e => e.2 rfl)) _
  have c1 : w1.cell? ⟨bm, k, none⟩ = some (V k) := hx.cell (h.mc k hk) (nv bm (.inr (.inl rfl)))
  have f1 : ∀ j, w1.frozen? ⟨bm, j, none⟩ = false := fun j => (hx.frozen (p := ⟨bm, j, none⟩) l2 (nv bm (.inr (.inl rfl)))).trans (h.mt j)
  have hvb : ∀ b, v'.ownBlock = some b → (V k).ownBlock = some b ∨ w.heap.size ≤ b := fun b hb => by
    rcases hv with e | e | ⟨b', e, e'⟩
    · rw [e] at hb; cases hb
    · exact .inl (by rw [← e]; exact hb)
    · rw [e] at hb
      cases hb
      exact .inr e'
  refine ⟨fun j hj => hy.cell (h.rc j hj) ⟨nv br (.inl rfl), e1⟩, fun j hj => hy.cell (h.sc j hj) ⟨nv bs (.inr (.inr rfl)), fun e => e2 e.symm⟩, fun j hj => ?_, fun j => by rw [World.frozen?_setCell]; exact f1 j, fun j hj => C.keep (h.ri j hj) (hy.mono (fun b _ hb => ⟨fun e => (h.vo k b hk e.symm).2.2.2.2 j hj hb, (h.fo j b hj hb).2.2.1⟩)), fun j hj => ?_, h.fd, h.fo, fun j b hj hb => ?_, fun i j b hi hj hij h1 h2 => ?_, h.n1, h.n2, ?_⟩
  · by_cases e : j = k
    · subst e
      rw [upd_self]
      exact World.cell?_setCell_same _ _ _ c1
    · rw [upd_ne _ _ e, World.cell?_setCell_other _ _ _ _ (fun e' => by injection e' with _ e2; omega)]
      exact hx.cell (h.mc j hj) (nv bm (.inr (.inl rfl)))
  · by_cases e : j = k
    · subst e
      rw [upd_self, upd_self]
      refine hr.keep (fun g hg => Below.heap_setCell _ _ _ _ (fun e => ?_))
      have e' : g = bm := e
      subst e'
      rcases hvb g hg with h3 | h3
      · exact (h.vo j g hj h3).2.2.1 rfl
      · omega
    · rw [upd_ne _ _ e, upd_ne _ _ e]
      exact (h.row j hj).keepX hy (fun g hg => ⟨fun e' => h.vd j k g hj hk e hg e'.symm, (h.vo j g hj hg).2.2.1⟩)
  · by_cases e : j = k
    · subst e
      rw [upd_self] at hb
      rcases hvb b hb with h3 | h3
      · exact h.vo j b hj h3
      · exact ⟨by omega, by omega, by omega, by omega, fun i hi hF => by have := C.lt (h.ri i hi) b hF; omega⟩
    · rw [upd_ne _ _ e] at hb
      exact h.vo j b hj hb
  · by_cases ei : i = k
    · subst ei
      rw [upd_self] at h1
      rw [upd_ne _ _ (fun e => hij e.symm)] at h2
      rcases hvb b h1 with h3 | h3
      · exact h.vd i j b hi hj hij h3 h2
      · have := (h.row j hj).lt b h2; omega
    · rw [upd_ne _ _ ei] at h1
      by_cases ej : j = k
      · subst ej
        rw [upd_self] at h2
        rcases hvb b h2 with h3 | h3
        · exact h.vd i j b hi hj hij h1 h3
        · have := (h.row i hi).lt b h1; omega
      · rw [upd_ne _ _ ej] at h2
        exact h.vd i j b hi hj hij h1 h2
  · exact ((Kx.of_below (X := fun b => b < w0.heap.size) h.bl).trans (hy.mono (fun b _ hb => ⟨fun e => by have := (h.vo k b hk e.symm).1; omega, by omega⟩))).below_of (fun _ hb => hb)
end
/-- What is done, row by row. -/
def SR (w : World) (v : Value) (L : List (Int × Int × Bool)) : Prop :=
  ∃ a c, v = .slice a L.length c ∧ (L ≠ [] → ∃ g o, a = some ⟨g, o, none⟩ ∧ ∀ (k : Nat) x, L[k]? = some x → w.cell? ⟨g, o + k * 3, none⟩ = some (.int .i64 x.1) ∧ w.cell? ⟨g, o + k * 3 + 1, none⟩ = some (.int .i64 x.2.1) ∧ w.cell? ⟨g, o + k * 3 + 2, none⟩ = some (.bool x.2.2))

set_option maxRecDepth 100000 in
set_option maxHeartbeats 1000000 in
theorem rgBegun_any {RI : (Nat → Prop) → World → Nat → Nat → List Int → Prop} (C : RingOK RI) (w : World) : Calls Try.prog 5 #[] w fun e w' => e = .returned (.bool true) ∧ Below w.heap.size w w' := by
  have HC := hide C
  clear C
  go_enter Try.func5, Try.ntmps5
  go_wp2_with fail
  refine (HC.out.new 2 _).mono ?_
  rintro e w1 ⟨p, F, rfl, hr1, hb1, hf1⟩
  have HR1 := hide hr1
  clear hr1
  go_wp2_with fail
  refine (HC.out.put 5 HR1.out (by decide)).mono ?_
  rintro e w2 ⟨rfl, F2, hr2, hk2, hf2⟩
  have HR2 : Hid (RI F2 w2 p 2 [5]) := hide hr2
  clear hr2
  have e1 : fullR (Int.toNat 2) [] = false := by decide
  rw [e1]
  go_wp2_with fail
  refine (HC.out.put 6 HR2.out (by decide)).mono ?_
  rintro e w3 ⟨rfl, F3, hr3, hk3, hf3⟩
  have HR3 : Hid (RI F3 w3 p 2 [5, 6]) := hide hr3
  clear hr3
  have e2 : fullR 2 [5] = false := by decide
  rw [e2]
  go_wp2_with fail
  refine (HC.out.put 7 HR3.out (by decide)).mono ?_
  rintro e w4 ⟨rfl, F4, hr4, hk4, hf4⟩
  have HR4 : Hid (RI F4 w4 p 2 [5, 6]) := hide hr4
  clear hr4
  have e3 : fullR 2 [5, 6] = true := by decide
  rw [e3]
  go_wp2_with fail
  refine (HC.out.len HR4.out).mono ?_
  rintro e w5 ⟨rfl, rfl⟩
  go_wp2
  go_ret
  refine ⟨rfl, ?_⟩
  have hs1 := hb1.size
  have hs2 := hk2.size
  have hs3 := hk3.size
  have g2 : ∀ b, F2 b → w.heap.size ≤ b := fun b h => (hf2 b h).elim (fun h => hf1 b h) (fun h => by omega)
  have g3 : ∀ b, F3 b → w.heap.size ≤ b := fun b h => (hf3 b h).elim (fun h => g2 b h) (fun h => by omega)
  exact ((((Kx.of_below (X := fun b => b < w.heap.size) hb1).trans (hk2.mono (fun b _ hb h => by have := hf1 b h; omega))).trans (hk3.mono (fun b _ hb h => by have := g2 b h; omega))).trans (hk4.mono (fun b _ hb h => by have := g3 b h; omega))).below_of (fun _ hb => hb)
end Go.Proofs.Ytllgphjgadmmaaa

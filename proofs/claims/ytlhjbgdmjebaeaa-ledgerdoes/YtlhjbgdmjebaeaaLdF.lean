import Derived.Test.YtlhjbgdmjebaeaaLdE
/- Two books of ends; how the laws begin; the loop of the law LedgerDoes. -/
namespace Go.Proofs.Ytlhjbgdmjebaeaa
open Go.RowKit

/-- A ledger and the document's book. -/
structure L2 (w0 w : World) (p q : Nat) (v u : Value) (L M : List En) : Prop where
  g : LG w0.heap.size w p v L
  b : LG w0.heap.size w q u M
  ne : p ≠ q
  vq : v.ownBlock ≠ some q
  up : u.ownBlock ≠ some p
  vu : ∀ b, v.ownBlock = some b → u.ownBlock ≠ some b
  bl : Below w0.heap.size w0 w
section
variable {w0 w w' : World} {p q : Nat} {v u v' : Value} {L M L' : List En}
theorem L2.keep (h : L2 w0 w p q v u L M) (hb : Below w.heap.size w w') : L2 w0 w' p q v u L M :=
  ⟨h.g.keep hb, h.b.keep hb, h.ne, h.vq, h.up, h.vu, h.bl.trans (hb.mono h.bl.size)⟩
theorem L2.setg (h : L2 w0 w p q v u L M) (hg : LG w0.heap.size w' p v' L') (hc : LC w w' p v v') : L2 w0 w' p q v' u L' M := by
  have hq := h.b.plt
  refine ⟨hg, h.b.keepX hc.k ⟨fun e => h.ne e.symm, fun e => h.vq e.symm⟩ (fun g hu => ⟨fun e => h.up (by rw [hu, e]), fun e => h.vu g e.symm hu⟩), h.ne, ?_, h.up, ?_, ?_⟩
  · intro e
    rcases hc.n with e1 | ⟨b, e1, hb⟩
    · exact h.vq (by rw [← e1]; exact e)
    · rw [e1] at e
      cases e
      omega
  · intro b hb hu
    rcases hc.n with e1 | ⟨b', e1, hb'⟩
    · exact h.vu b (by rw [← e1]; exact hb) hu
    · rw [e1] at hb
      cases hb
      have := (h.b.o.lt _ hu).2
      omega
  · exact ((Kx.of_below (X := fun b => b < w0.heap.size) h.bl).trans (hc.k.mono (fun b _ hb => ⟨fun e => by have := h.g.lo; omega, fun e => by have := (h.g.o.lt b e.symm).1; omega⟩))).below_of (fun _ hb => hb)
theorem L2.swap (h : L2 w0 w p q v u L M) : L2 w0 w q p u v M L :=
  ⟨h.b, h.g, fun e => h.ne e.symm, h.up, h.vq, fun b hu hv => h.vu b hv hu, h.bl⟩
theorem L2.setb (h : L2 w0 w p q v u L M) (hg : LG w0.heap.size w' q v' L') (hc : LC w w' q u v') : L2 w0 w' p q v v' L L' := (h.swap.setg hg hc).swap
end
set_option maxRecDepth 100000
set_option maxHeartbeats 1000000
theorem llBegun_any (w : World) : Calls Try.prog 5 #[] w fun e w' => e = .returned (.bool true) ∧ Below w.heap.size w w' := by
  go_enter Try.func5, Try.ntmps5
  go_wp2_with fail
  refine (ldNew_any _).mono ?_
  rintro e w1 ⟨rfl, hg, hb⟩
  have HG := hide hg
  have HB := hide hb
  clear hg hb
  obtain ⟨B, hz⟩ : ∃ B, w.heap.size = B := ⟨_, rfl⟩
  have HS := hide hz
  rw [hz] at HG ⊢
  clear hz
  have C2 := hide (born_any HG.out 3 true 0 (by decide))
  go_wp2_with fail
  refine C2.out.mono ?_
  rintro e w2 ⟨rfl, v2, hg, hc⟩
  have HG2 : Hid (LG B w2 B v2 [⟨3, true, 0, 0⟩]) := hide hg
  have HK2 := hide hc.k
  have HN2 := hide hc.n
  clear hg hc C2
  have C3 := hide (use_any HG2.out 0 1 2)
  have e3 : Ld.use [⟨3, true, 0, 0⟩] 0 1 2 = 4 := rfl
  rw [e3] at C3
  clear e3
  go_wp2_with fail
  refine C3.out.mono ?_
  rintro e w3 ⟨rfl, hb3⟩
  have HG3 := hide (HG2.out.keep hb3)
  have HB3 := hide hb3
  clear hb3 C3
  have C4 := hide (gone_any HG3.out 0 (by intro x hx; simp at hx; subst hx; exact ⟨by decide, by decide⟩))
  have e4 : (Ld.has [⟨3, true, 0, 0⟩] 0 && !((Ld.at [⟨3, true, 0, 0⟩] 0).h == -2)) = true := rfl
  rw [e4] at C4
  clear e4
  go_wp2_with fail
  refine C4.out.mono ?_
  rintro e w4 ⟨rfl, hg, hc⟩
  have HG4 : Hid (LG B w4 B v2 [⟨3, true, -2, 1⟩]) := hide hg
  have HK4 := hide hc.k
  clear hg hc C4
  have C5 := hide (gone_any HG4.out 0 (by intro x hx; simp at hx; subst hx; exact ⟨by decide, by decide⟩))
  have e5 : (Ld.has [⟨3, true, -2, 1⟩] 0 && !((Ld.at [⟨3, true, -2, 1⟩] 0).h == -2)) = false := rfl
  rw [e5] at C5
  clear e5
  go_wp2_with fail
  refine C5.out.mono ?_
  rintro e w5 ⟨rfl, hg, hc⟩
  have HG5 : Hid (LG B w5 B v2 [⟨3, true, -2, 2⟩]) := hide hg
  have HK5 := hide hc.k
  clear hg hc C5
  have C6 := hide (use_any HG5.out 0 0 1)
  have e6 : Ld.use [⟨3, true, -2, 2⟩] 0 0 1 = 2 := rfl
  rw [e6] at C6
  clear e6
  go_wp2_with fail
  refine C6.out.mono ?_
  rintro e w6 ⟨rfl, hb6⟩
  go_wp2
  go_ret
  refine ⟨rfl, ?_⟩
  have hv : ∀ b, b < B → b ≠ B ∧ some b ≠ v2.ownBlock := fun b hb => ⟨by omega, fun e => by have := (HG2.out.o.lt b e.symm).1; omega⟩
  have k2 := HK2.out.mono (Y := fun b => b < B) (fun b _ hb => ⟨by omega, fun e => by cases e⟩)
  have k4 := HK4.out.mono (Y := fun b => b < B) (fun b _ hb => hv b hb)
  have k5 := HK5.out.mono (Y := fun b => b < B) (fun b _ hb => hv b hb)
  have KK := ((((Kx.of_below (X := fun b => b < B) HB.out).trans k2).trans ((Kx.of_below (X := fun b => b < B) HB3.out).trans k4)).trans k5).trans (Kx.of_below (X := fun b => b < B) hb6)
  have hs := HS.out
  exact KK.below_of (fun _ hb => by rw [← hs]; exact hb)
/-- The first loop in a code. -/
def firstLoop : Code → Option Code
  | .loop c => some c
  | .seq a b => match firstLoop a with
    | some c => some c
    | none => firstLoop b
  | .block _ c => firstLoop c
  | .scope c => firstLoop c
  | .cond _ a b => match firstLoop a with
    | some c => some c
    | none => firstLoop b
  | _ => none
noncomputable def lbody : Code := (Try.f3.body.bind firstLoop).getD .skip
/-- What stands behind the loop: of a panic it asks nothing of the frame. -/
def qmix (P0 : List PanicEntry → Act → World → Prop) (Q1 : Exit → Act → World → Prop) (e : Exit) (a : Act) (w : World) : Prop := match e with
  | .panic c => P0 c ⟨#[], a.defers⟩ w
  | x => Q1 x a w
/-- The frame in the loop. -/
def lframe (av : Option Addr) (n cv p q : Nat) (u : Nat → Value) : Act := ⟨#[.slice av n cv, u 1, u 2, .pointer (some ⟨p, 0, none⟩), .pointer (some ⟨q, 0, none⟩), u 5, u 6, u 7, u 8, u 9, u 10, u 11, u 12, u 13, u 14, u 15, u 16, u 17, u 18, u 19, u 20, u 21, u 22, u 23, u 24, u 25, u 26, u 27, u 28, u 29, u 30, u 31, u 32, u 33, u 34, u 35, u 36, u 37, u 38, u 39, u 40, u 41, u 42, u 43, u 44, u 45, u 46, u 47, u 48, u 49, u 50, u 51, u 52, u 53, u 54, u 55, u 56, u 57, u 58, u 59, u 60, u 61, u 62, u 63, u 64, u 65, u 66, u 67, u 68, u 69, u 70, u 71, u 72, u 73, u 74, u 75, u 76, u 77, u 78, u 79, u 80, u 81, u 82, u 83, u 84, u 85, u 86, u 87, u 88, u 89, u 90, u 91, u 92, u 93, u 94, u 95, u 96, u 97, u 98, u 99, u 100, u 101, u 102, u 103, u 104, u 105, u 106, u 107, u 108, u 109, u 110, u 111, u 112, u 113, u 114, u 115, u 116, u 117, u 118, u 119, u 120, u 121, u 122, u 123, u 124, u 125, u 126, u 127, u 128, u 129, u 130, u 131, u 132, u 133, u 134, u 135, u 136, u 137, u 138, u 139, u 140, u 141, u 142, u 143, u 144, u 145, u 146, u 147, u 148, u 149, u 150, u 151, u 152, u 153, u 154, u 155, u 156, u 157, u 158, u 159, u 160, u 161, u 162, u 163, u 164, u 165, u 166, u 167, u 168, u 169, u 170, u 171, u 172, u 173, u 174, u 175, u 176, u 177, u 178, u 179, u 180, u 181, u 182, u 183, u 184, u 185, u 186, u 187, u 188, u 189, u 190, u 191, u 192, u 193, u 194, u 195, u 196, u 197, u 198, u 199, u 200, u 201, u 202, u 203, u 204, u 205, u 206, u 207, u 208, u 209, u 210, u 211, u 212, u 213, u 214, u 215, u 216, u 217, u 218, u 219, u 220, u 221], []⟩
end Go.Proofs.Ytlhjbgdmjebaeaa

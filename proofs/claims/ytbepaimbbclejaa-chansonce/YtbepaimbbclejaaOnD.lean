import Derived.Test.YtbepaimbbclejaaOnGa
import Derived.Test.YtbepaimbbclejaaStZa
import Derived.Deep.Cut
import Derived.Deep.CutRange
import Derived.Deep.LoopGhost
import Derived.Deep.RegionHeld3
import Derived.BigRegion
import Derived.BigQuiet
/- The law ChansOnce: its loops' bodies, its frames, and what is plain of its end. -/
namespace Go.Proofs.Ytbepaimbbclejaa
open Go.RowKit

/-- The loops of a code, those within others left out. -/
def loopsOf : Code → List Code
  | .loop c => [c]
  | .seq a b => loopsOf a ++ loopsOf b
  | .block _ c => loopsOf c
  | .scope c => loopsOf c
  | .cond _ a b => loopsOf a ++ loopsOf b
  | _ => []
noncomputable def obody (k : Nat) : Code := ((Try.f4.body.map loopsOf).getD [])[k]?.getD .skip
/-- What stands behind a loop: of a panic it asks nothing of the frame. -/
def qmix (P0 : List PanicEntry → Act → World → Prop) (Q1 : Exit → Act → World → Prop) (e : Exit) (a : Act) (w : World) : Prop := match e with
  | .panic c => P0 c ⟨#[], a.defers⟩ w
  | x => Q1 x a w
theorem qmix_eq (Q : Exit → Act → World → Prop) (h : ∀ c t t' d w, Q (.panic c) ⟨t, d⟩ w = Q (.panic c) ⟨t', d⟩ w) : qmix (fun c a w => Q (.panic c) a w) Q = Q := by
  funext e a w
  cases e <;> first | rfl | exact h _ _ _ _ _
theorem wp_qmix {P : Program} {c : Code} {Q : Exit → Act → World → Prop} {a : Act} {w : World} (h0 : ∀ c t t' d w, Q (.panic c) ⟨t, d⟩ w = Q (.panic c) ⟨t', d⟩ w) (h : Code.wp P c (qmix (fun c a w => Q (.panic c) a w) Q) a w) : Code.wp P c Q a w := by
  rw [qmix_eq Q h0] at h
  exact h
set_option maxRecDepth 1000000
/-- The frame in the first two loops, and in the others. -/
def oframe (av : Option Addr) (n cv q : Nat) (u : Nat → Value) : Act := ⟨#[.slice av n cv, u 1, u 2, .pointer (some ⟨q, 0, none⟩), u 4, u 5, u 6, u 7, u 8, u 9, u 10, u 11, u 12, u 13, u 14, u 15, u 16, u 17, u 18, u 19, u 20, u 21, u 22, u 23, u 24, u 25, u 26, u 27, u 28, u 29, u 30, u 31, u 32, u 33, u 34, u 35, u 36, u 37, u 38, u 39, u 40, u 41, u 42, u 43, u 44, u 45, u 46, u 47, u 48, u 49, u 50, u 51, u 52, u 53, u 54, u 55, u 56, u 57, u 58, u 59, u 60, u 61, u 62, u 63, u 64, u 65, u 66, u 67, u 68, u 69, u 70, u 71, u 72, u 73, u 74, u 75, u 76, u 77, u 78, u 79, u 80, u 81, u 82, u 83, u 84, u 85, u 86, u 87, u 88, u 89, u 90, u 91, u 92, u 93, u 94, u 95, u 96, u 97, u 98, u 99, u 100, u 101, u 102, u 103, u 104, u 105, u 106, u 107, u 108, u 109, u 110, u 111, u 112, u 113, u 114, u 115, u 116, u 117, u 118, u 119, u 120, u 121, u 122, u 123, u 124, u 125, u 126, u 127, u 128, u 129, u 130, u 131, u 132, u 133, u 134, u 135, u 136, u 137, u 138, u 139, u 140, u 141, u 142, u 143, u 144, u 145, u 146, u 147, u 148, u 149, u 150, u 151, u 152, u 153, u 154, u 155, u 156, u 157, u 158, u 159, u 160, u 161, u 162, u 163, u 164, u 165, u 166, u 167, u 168, u 169, u 170, u 171, u 172, u 173, u 174, u 175, u 176, u 177, u 178, u 179, u 180, u 181, u 182, u 183, u 184, u 185, u 186, u 187, u 188, u 189, u 190, u 191, u 192, u 193, u 194, u 195, u 196, u 197, u 198, u 199, u 200, u 201, u 202, u 203, u 204, u 205, u 206, u 207, u 208, u 209, u 210, u 211, u 212, u 213, u 214, u 215, u 216, u 217, u 218, u 219, u 220, u 221, u 222, u 223, u 224, u 225, u 226, u 227, u 228, u 229, u 230, u 231, u 232, u 233, u 234, u 235, u 236, u 237, u 238, u 239], []⟩
def oframe2 (q : Nat) (ae : Option Addr) (m ce : Nat) (u : Nat → Value) : Act := ⟨#[u 0, u 1, u 2, .pointer (some ⟨q, 0, none⟩), u 4, u 5, u 6, u 7, .slice ae m ce, u 9, u 10, u 11, u 12, u 13, u 14, u 15, u 16, u 17, u 18, u 19, u 20, u 21, u 22, u 23, u 24, u 25, u 26, u 27, u 28, u 29, u 30, u 31, u 32, u 33, u 34, u 35, u 36, u 37, u 38, u 39, u 40, u 41, u 42, u 43, u 44, u 45, u 46, u 47, u 48, u 49, u 50, u 51, u 52, u 53, u 54, u 55, u 56, u 57, u 58, u 59, u 60, u 61, u 62, u 63, u 64, u 65, u 66, u 67, u 68, u 69, u 70, u 71, u 72, u 73, u 74, u 75, u 76, u 77, u 78, u 79, u 80, u 81, u 82, u 83, u 84, u 85, u 86, u 87, u 88, u 89, u 90, u 91, u 92, u 93, u 94, u 95, u 96, u 97, u 98, u 99, u 100, u 101, u 102, u 103, u 104, u 105, u 106, u 107, u 108, u 109, u 110, u 111, u 112, u 113, u 114, u 115, u 116, u 117, u 118, u 119, u 120, u 121, u 122, u 123, u 124, u 125, u 126, u 127, u 128, u 129, u 130, u 131, u 132, u 133, u 134, u 135, u 136, u 137, u 138, u 139, u 140, u 141, u 142, u 143, u 144, u 145, u 146, u 147, u 148, u 149, u 150, u 151, u 152, u 153, u 154, u 155, u 156, u 157, u 158, u 159, u 160, u 161, u 162, u 163, u 164, u 165, u 166, u 167, u 168, u 169, u 170, u 171, u 172, u 173, u 174, u 175, u 176, u 177, u 178, u 179, u 180, u 181, u 182, u 183, u 184, u 185, u 186, u 187, u 188, u 189, u 190, u 191, u 192, u 193, u 194, u 195, u 196, u 197, u 198, u 199, u 200, u 201, u 202, u 203, u 204, u 205, u 206, u 207, u 208, u 209, u 210, u 211, u 212, u 213, u 214, u 215, u 216, u 217, u 218, u 219, u 220, u 221, u 222, u 223, u 224, u 225, u 226, u 227, u 228, u 229, u 230, u 231, u 232, u 233, u 234, u 235, u 236, u 237, u 238, u 239], []⟩
def oframe3 (ae : Option Addr) (m ce : Nat) (ac : Option Addr) (k cc : Nat) (u : Nat → Value) : Act := ⟨#[u 0, u 1, u 2, u 3, u 4, u 5, u 6, u 7, .slice ae m ce, u 9, u 10, u 11, .slice ac k cc, u 13, u 14, u 15, u 16, u 17, u 18, u 19, u 20, u 21, u 22, u 23, u 24, u 25, u 26, u 27, u 28, u 29, u 30, u 31, u 32, u 33, u 34, u 35, u 36, u 37, u 38, u 39, u 40, u 41, u 42, u 43, u 44, u 45, u 46, u 47, u 48, u 49, u 50, u 51, u 52, u 53, u 54, u 55, u 56, u 57, u 58, u 59, u 60, u 61, u 62, u 63, u 64, u 65, u 66, u 67, u 68, u 69, u 70, u 71, u 72, u 73, u 74, u 75, u 76, u 77, u 78, u 79, u 80, u 81, u 82, u 83, u 84, u 85, u 86, u 87, u 88, u 89, u 90, u 91, u 92, u 93, u 94, u 95, u 96, u 97, u 98, u 99, u 100, u 101, u 102, u 103, u 104, u 105, u 106, u 107, u 108, u 109, u 110, u 111, u 112, u 113, u 114, u 115, u 116, u 117, u 118, u 119, u 120, u 121, u 122, u 123, u 124, u 125, u 126, u 127, u 128, u 129, u 130, u 131, u 132, u 133, u 134, u 135, u 136, u 137, u 138, u 139, u 140, u 141, u 142, u 143, u 144, u 145, u 146, u 147, u 148, u 149, u 150, u 151, u 152, u 153, u 154, u 155, u 156, u 157, u 158, u 159, u 160, u 161, u 162, u 163, u 164, u 165, u 166, u 167, u 168, u 169, u 170, u 171, u 172, u 173, u 174, u 175, u 176, u 177, u 178, u 179, u 180, u 181, u 182, u 183, u 184, u 185, u 186, u 187, u 188, u 189, u 190, u 191, u 192, u 193, u 194, u 195, u 196, u 197, u 198, u 199, u 200, u 201, u 202, u 203, u 204, u 205, u 206, u 207, u 208, u 209, u 210, u 211, u 212, u 213, u 214, u 215, u 216, u 217, u 218, u 219, u 220, u 221, u 222, u 223, u 224, u 225, u 226, u 227, u 228, u 229, u 230, u 231, u 232, u 233, u 234, u 235, u 236, u 237, u 238, u 239], []⟩
/-- A state in memory, as far as the law has come. -/
def OS (w1 wr : World) (q n : Nat) (s : Cst) : Prop := ∃ F, SX F w1.heap.size wr q s ∧ Wf n s ∧ On s [] ∧ Below w1.heap.size w1 wr
theorem OS.keep {w1 w w' : World} {q n : Nat} {s : Cst} (h : OS w1 w q n s) (hb : Below w.heap.size w w') : OS w1 w' q n s := by
  obtain ⟨F, h1, h2, h3, h4⟩ := h
  exact ⟨F, h1.keep (Kx.of_below hb), h2, h3, h4.trans (hb.mono h4.size)⟩
/-- The store's ledger. -/
theorem OS.led {w1 w : World} {q n : Nat} {s : Cst} (h : OS w1 w q n s) : ∃ pl ve, w.cell? ⟨q, 0, none⟩ = some (.pointer (some ⟨pl, 0, none⟩)) ∧ LG w1.heap.size w pl ve s.e := by
  obtain ⟨F, ⟨pl, ve, vc, P, N, h1, h2, h3⟩, -⟩ := h
  exact ⟨pl, ve, h1.c0, h1.lg⟩
theorem Ld.nat_at {L : List En} {e : Nat} {x : En} (hx : L[e]? = some x) : Ld.at L (e : Int) = x ∧ Ld.has L (e : Int) = true := by
  rcases Ld.cs L (e : Int) with ⟨m, y, e', hy, -, h1, h2⟩ | ⟨-, -, h3⟩
  · obtain rfl : e = m := by omega
    rw [hx] at hy
    cases hy
    exact ⟨h2, h1⟩
  · have := (List.getElem?_eq_some_iff.1 hx).1
    exact absurd ⟨by omega, by omega⟩ h3
theorem On.fin {s : Cst} (h : On s []) (hs : Sw s.e.length s) {e : Nat} {x : En} (hx : s.e[e]? = some x) : x.h < 0 ∧ (decide (0 ≤ x.h)) = false ∧ (decide (1 < x.d)) = false ∧ (x.d == 1) = (x.h == -2) ∧ ((x.h == -1) = !(x.h == -2)) := by
  have h1 := hs e x (List.getElem?_eq_some_iff.1 hx).1 hx
  rcases h.d x (List.mem_of_getElem? hx) with ⟨h2, h3⟩ | ⟨h2, h3⟩
  · have : x.h = -1 := by omega
    rw [h2, this]
    exact ⟨by decide, by decide, by decide, by decide, by decide⟩
  · rw [h2, h3]
    exact ⟨by decide, by decide, by decide, by decide, by decide⟩
theorem Bk.cvs_at {E : List En} {S : List Int} {I : List (List (Int × Int))} {G : List Bool} {k : Nat} (hk : k < S.length) : (Bk.cvs E S I G)[k]? = some (Bk.cv E S I G k) := by
  unfold Bk.cvs
  rw [List.getElem?_map, List.getElem?_range hk]
  rfl
theorem Bk.cvs_len (E : List En) (S : List Int) (I : List (List (Int × Int))) (G : List Bool) : (Bk.cvs E S I G).length = S.length := by
  unfold Bk.cvs
  rw [List.length_map, List.length_range]
theorem Bk.send_pos {E : List En} {e : Nat} {x : En} (hx : E[e]? = some x) (hs : x.s = true) (hh : x.h ≠ -2) : 0 < Bk.send E x.c := by
  unfold Bk.send
  refine List.length_pos_of_mem (a := x) ?_
  rw [List.mem_filter]
  refine ⟨List.mem_of_getElem? hx, ?_⟩
  unfold Bk.cnt
  rw [hs]
  simp [hh]
/-- Of an end. -/
theorem On.finE {s : Cst} {n : Nat} (h : On s []) (w : Wf n s) {e : Nat} {x : En} (hx : s.e[e]? = some x) : ∃ c : Nat, x.c = (c : Int) ∧ c < s.s.length ∧ (x.s = true → x.h ≠ -2 → ((Bk.cv s.e s.s s.i s.g c).s == 0) = false) ∧ (x.s = false → (Bk.cv s.e s.s s.i s.g c).g = (x.h == -2)) := by
  obtain ⟨c, sl, M, g, hc, hS, hI, hG, hcl, hMl⟩ := w.o.chan hx
  refine ⟨c, hc, hcl, fun h1 h2 => ?_, fun h1 => ?_⟩
  · have := Bk.send_pos hx h1 h2
    rw [hc] at this
    unfold Bk.cv
    exact beq_eq_false_iff_ne.2 (by simp only; omega)
  · have := h.r e x hx h1
    rw [hc, Int.toNat_natCast] at this
    unfold Bk.cv
    simp only [List.getD_eq_getElem?_getD, this, Option.getD_some]
    rw [Bool.eq_iff_iff, decide_eq_true_eq, beq_iff_eq]
/-- Of a channel. -/
theorem On.finC {s : Cst} {n : Nat} (h : On s []) (w : Wf n s) {k : Nat} (hk : k < s.s.length) : (Bk.cv s.e s.s s.i s.g k).s = (Bk.send s.e (k : Int) : Int) ∧ ((Bk.cv s.e s.s s.i s.g k).g = true → (Bk.cv s.e s.s s.i s.g k).i = []) ∧ (0 < (Bk.cv s.e s.s s.i s.g k).n → ((Bk.cv s.e s.s s.i s.g k).i.length : Int) ≤ (Bk.cv s.e s.s s.i s.g k).n) := by
  have hI : s.i[k]? = some (s.i[k]'(by rw [w.o.lI]; exact hk)) := List.getElem?_eq_getElem _
  have hG : s.g[k]? = some (s.g[k]'(by rw [w.o.lG]; exact hk)) := List.getElem?_eq_getElem _
  have hS : s.s[k]? = some (s.s[k]) := List.getElem?_eq_getElem _
  refine ⟨rfl, fun h1 => ?_, fun h1 => ?_⟩
  · unfold Bk.cv at h1 ⊢
    simp only [List.getD_eq_getElem?_getD, hG, Option.getD_some] at h1 ⊢
    rw [h.gi k (by rw [hG, h1])]
    rfl
  · unfold Bk.cv at h1 ⊢
    simp only [List.getD_eq_getElem?_getD, hS, hI, Option.getD_some] at h1 ⊢
    exact h.si k _ _ hS hI h1
end Go.Proofs.Ytbepaimbbclejaa

import Derived.Test.YtdnlnpdaplonfabDoorSnJ
import Derived.Test.YtdnlnpdaplonfabDoorSynGr
/- Copies: expressions. -/
namespace Go.Proofs.YtdnlnpdaplonfabDoor
open Go.RowKit

def CE (n : Nat) : Prop := ∀ (w : World) (P : Nat → Prop) (l : List Sx.Tr) (v : Value), EL w P n l v → Sx.wE n l ≤ 1000000 →
  Calls Tryd.prog 63 #[v] w fun e w' => ∃ a cap, e = .returned (.slice a l.length cap) ∧ EL w' (fun b => w.heap.size ≤ b) n l (.slice a l.length cap) ∧ Kp [] w w'
theorem wE_nth (n : Nat) (l : List Sx.Tr) (hw : Sx.wE (n + 1) l ≤ 1000000) : ∀ (i : Nat) d, l[i]? = some d → Sx.wE n (Sx.eL d) ≤ 1000000 := fun i d hd => by
  have h1 : Sx.sum (fun d => Sx.wE n (Sx.eL d)) (l.take (i + 1)) = Sx.sum (fun d => Sx.wE n (Sx.eL d)) (l.take i) + Sx.wE n (Sx.eL d) := Sx.sum_take (fun d => Sx.wE n (Sx.eL d)) l i d hd
  have h2 := Sx.sum_take_le (fun d => Sx.wE n (Sx.eL d)) l (i + 1)
  have : l.length + Sx.sum (fun d => Sx.wE n (Sx.eL d)) l = Sx.wE (n + 1) l := rfl
  omega
theorem take_snoc {l : List Sx.Tr} {k : Nat} {d : Sx.Tr} (h : l[k]? = some d) : l.take (k + 1) = l.take k ++ [d] := by
  rw [List.take_add_one, h]
  rfl
set_option maxRecDepth 100000 in
set_option maxHeartbeats 2000000 in
theorem copyExprs_step (n : Nat) (ih : CE n) : CE (n + 1) := by
  intro w P l v h hw
  obtain ⟨a, cap, rfl⟩ := h.slice
  obtain ⟨i0, hi0, hz0, hz1, hz2⟩ := info_parts Tryd.infoExpr
  have HS := hide h
  have IH := hide ih
  have hl : l.length ≤ 1000000 := by have : l.length + _ = Sx.wE (n + 1) l := rfl; omega
  have HWT := hide (wE_nth n l hw)
  clear h ih hw
  go_enter Tryd.func63, Tryd.ntmps63
  go_wp2
  go_loopw [3, 4] (fun v iv wr => ∃ (k : Nat) (cs : List Value), k ≤ l.length ∧ iv = .int .i64 k ∧ Hid (Kp [] w wr) ∧ Hid (wr.ownsRow w.heap.size 88 4 v k cs) ∧ Hid (Rw (RE wr (fun b => w.heap.size ≤ b ∧ some b ≠ v.ownBlock) n) (l.take k) cs)) (fun _ iv _ => l.length - (intOf iv).toNat)
  case atStart => exact ⟨0, [], Nat.zero_le _, rfl, Kp.refl _ _, World.ownsRow_nil _ _ _ _, by show Rw _ _ _; rw [List.take_zero]; rfl⟩
  case round =>
    obtain ⟨k, cs, hk, rfl, HK, HO, HR⟩ := hrel
    have hz := HK.out.size
    by_cases hlt : k < l.length
    · obtain ⟨b, off, op, nm, z, L, aL, cL, rfl, -, hd, m0, m1, m2, m3, hL⟩ := (HS.out.keep HK.out (by simp)).nth k hlt
      have hwt : Sx.wE n L ≤ 1000000 := HWT.out k _ hd
      have HD := hide hd
      have HL := hide hL
      have HOL := hide (own_lt HO.out)
      have hk0 : (0 : Int) ≤ (k : Int) := by omega
      have hk1 : (k : Int) < (l.length : Int) := by omega
      have hblt := World.block_lt_of_cell? _ _ m0
      clear hL hd
      go_wp2_with fail
      refine (IH.out _ P L _ (HL.out.keep ((Kp.refl [] _).alloc _) (by simp)) hwt).mono ?_
      rintro e w1 ⟨a5, cap5, rfl, hEL, hk5⟩
      have c0 : w1.cell? ⟨wr.heap.size, 0, none⟩ = some (.int .i64 op) := hk5.some (by simp [go_sem]) (by simp)
      have c1 : w1.cell? ⟨wr.heap.size, 1, none⟩ = some (.string (bs nm)) := hk5.some (by simp [go_sem]) (by simp)
      have c2 : w1.cell? ⟨wr.heap.size, 2, none⟩ = some (.int .i64 z) := hk5.some (by simp [go_sem]) (by simp)
      have c3 : w1.cell? ⟨wr.heap.size, 3, none⟩ = some (.slice aL L.length cL) := hk5.some (by simp [go_sem]) (by simp)
      have f3 : w1.frozen? ⟨wr.heap.size, 3, none⟩ = false := (hk5.frozen (p := ⟨wr.heap.size, 3, none⟩) (by simp) (by simp)).trans (by simp [go_sem])
      have K5 : Hid (Kp [] wr (w1.setCell ⟨wr.heap.size, 3, none⟩ (.slice a5 L.length cap5))) := (((Kp.refl [] _).alloc _).trans hk5).nb (Nat.le_refl _) _ _
      have hs5 : wr.heap.size < w1.heap.size := World.block_lt_of_cell? _ _ c0
      have HRE : Hid (RE (w1.setCell ⟨wr.heap.size, 3, none⟩ (.slice a5 L.length cap5)) (fun b => wr.heap.size < b) n (Sx.tE op nm z L) [.int .i64 op, .string (bs nm), .int .i64 z, .slice a5 L.length cap5]) :=
        ⟨op, nm, z, L, _, rfl, rfl, (hEL.base (P' := fun b => wr.heap.size < b) (fun b _ hb => by simp at hb; omega)).keep (Kp.rb (S := []) (Kp.refl _ _) _ _) (by simp)⟩
      have HO5 := hide (own_keep HO.out K5.out (by simp))
      have HR5 := hide (HR.out.mono (fun d cc hd => hd.keep K5.out (by simp)))
      clear hEL hk5
      go_wp2_with (at_builtin; refine wpList_append_lies _ rfl _ _ 51 rfl w.heap.size 88 i0 (.agg #[.int .i64 0, .string ⟨#[]⟩, .int .i64 0, .slice none 0 0]) 4 56 Tryd.underlying51 hi0 hz0 hz1 hz2 rfl (by decide) _ _ _ rfl (by exact HO5.out.alloc _) ⟨w1.heap.size, 0, none⟩ 1 1 [.int .i64 op, .string (bs nm), .int .i64 z, .slice a5 L.length cap5] rfl rfl ?c1 ?c2 ?c3 ?c4 ?c5 ?c6 _ rfl ?_)
      case c1 => exact cells_four_new _ _ (by simp [World.setCell]) _ _ _ _ _
      case c2 => intro u hu; simp at hu; rcases hu with rfl | rfl | rfl | rfl <;> rfl
      case c3 => decide
      case c4 => unfold maxLen; omega
      case c5 => omega
      case c6 => simp [World.setCell]; omega
      · intro g cap6 w6 hown hgrow hat hlt6
        have hblk := own_blk HO5.out
        have hR : Rw (RE ((w1.setCell ⟨wr.heap.size, 3, none⟩ (.slice a5 L.length cap5)).alloc (.cells #[.int .i64 op, .string (bs nm), .int .i64 z, .slice a5 L.length cap5] 88)) (fun b => w.heap.size ≤ b ∧ some b ≠ Value.ownBlock u3) n) (l.take k ++ [Sx.tE op nm z L]) (cs ++ [.int .i64 op, .string (bs nm), .int .i64 z, .slice a5 L.length cap5]) := by
          refine Rw.snoc (HR5.out.mono (fun d cc hd => hd.keep (S := []) ((Kp.refl _ _).alloc _) (by simp))) ?_
          refine (HRE.out.base (P' := fun b => w.heap.size ≤ b ∧ some b ≠ Value.ownBlock u3) (fun b _ hb => ?_)).keep (S := []) ((Kp.refl _ _).alloc _) (by simp)
          exact ⟨by omega, fun e => by have := HOL.out b e; omega⟩
        have hR6 := rows_grow (R := fun w P d c => RE w P n d c) (fun w w' S P d c h hk hS => h.keep hk hS) (fun w P P' d c h hP => h.base hP) hR hgrow (by simpa [World.setCell] using hat)
        rw [← take_snoc HD.out] at hR6
        have HR6 := hide hR6
        have HO6 := hide hown
        have HK6 := hide (((HK.out.trans K5.out).alloc (.cells #[.int .i64 op, .string (bs nm), .int .i64 z, .slice a5 L.length cap5] 88)).grown hgrow (fun k hk => .inl (hblk k (by rw [hk]; simp))))
        clear hR hR6 hown hgrow hat
        go_wp2
        go_roundw
        case rel => exact ⟨k + 1, _, by omega, by go_num, HK6.out, HO6.out, HR6.out⟩
        case measure => simp [intOf]; omega
    · obtain rfl : k = l.length := by omega
      have hR := HR.out
      rw [List.take_length] at hR
      have hSl : Sl (RE wr (fun b => w.heap.size ≤ b) n) wr (fun b => w.heap.size ≤ b) l u3 := Sl.of_own HO.out rfl (fun b hb => hb) (hR.mono (fun d cc hd => hd.base (fun b _ hb => hb.1)))
      obtain ⟨a5, c5, rfl, -⟩ := id hSl
      have HSl := hide hSl
      clear hR hSl
      go_wp2
      go_ret
      exact ⟨a5, c5, rfl, EL.of_sl HSl.out, HK.out⟩
theorem copyExprs_any (n : Nat) : CE n := by
  induction n with
  | zero => intro w P l v h; cases h
  | succ n ih => exact copyExprs_step n ih
end Go.Proofs.YtdnlnpdaplonfabDoor

import Derived.Test.YtdnlnpdaplonfabDoorSynCp
/- Copies: statements. -/
namespace Go.Proofs.YtdnlnpdaplonfabDoor
open Go.RowKit

def CSt (n : Nat) : Prop := ∀ (w : World) (P : Nat → Prop) (l : List Sx.Tr) (v : Value), SL w P n l v → Sx.wS n l ≤ 1000000 →
  Calls Tryd.prog 38 #[v] w fun e w' => ∃ a cap, e = .returned (.slice a l.length cap) ∧ SL w' (fun b => w.heap.size ≤ b) n l (.slice a l.length cap) ∧ Kp [] w w'
theorem wS_nth' (n : Nat) (l : List Sx.Tr) (hw : Sx.wS (n + 1) l ≤ 1000000) : ∀ (i : Nat) d, l[i]? = some d → Sx.wE n (Sx.sE d) + Sx.wS n (Sx.sB d) + Sx.wS n (Sx.sO d) ≤ 1000000 := fun i d hd => by
  have h1 : Sx.sum (fun d => Sx.wE n (Sx.sE d) + Sx.wS n (Sx.sB d) + Sx.wS n (Sx.sO d)) (l.take (i + 1)) = Sx.sum (fun d => Sx.wE n (Sx.sE d) + Sx.wS n (Sx.sB d) + Sx.wS n (Sx.sO d)) (l.take i) + (Sx.wE n (Sx.sE d) + Sx.wS n (Sx.sB d) + Sx.wS n (Sx.sO d)) := Sx.sum_take _ l i d hd
  have h2 := Sx.sum_take_le (fun d => Sx.wE n (Sx.sE d) + Sx.wS n (Sx.sB d) + Sx.wS n (Sx.sO d)) l (i + 1)
  have : l.length + Sx.sum (fun d => Sx.wE n (Sx.sE d) + Sx.wS n (Sx.sB d) + Sx.wS n (Sx.sO d)) l = Sx.wS (n + 1) l := rfl
  omega

set_option maxRecDepth 100000 in
set_option maxHeartbeats 4000000 in
theorem copyStmts_step (n : Nat) (ih : CSt n) : CSt (n + 1) := by
  intro w P l v h hw
  obtain ⟨a, cap, rfl⟩ := h.slice
  obtain ⟨i0, hi0, hz0, hz1, hz2⟩ := info_parts Tryd.infoStmt
  have HS := hide h
  have IH := hide ih
  have IHE := hide (copyExprs_any n)
  have hl : l.length ≤ 1000000 := by have : l.length + _ = Sx.wS (n + 1) l := rfl; omega
  have HWT := hide (wS_nth' n l hw)
  clear h ih hw
  go_enter Tryd.func38, Tryd.ntmps38
  go_wp2
  go_loopw [3, 4] (fun v iv wr => ∃ (k : Nat) (cs : List Value), k ≤ l.length ∧ iv = .int .i64 k ∧ Hid (Kp [] w wr) ∧ Hid (wr.ownsRow w.heap.size 53 9 v k cs) ∧ Hid (Rw (RS wr (fun b => w.heap.size ≤ b ∧ some b ≠ v.ownBlock) n) (l.take k) cs)) (fun _ iv _ => l.length - (intOf iv).toNat)
  case atStart => exact ⟨0, [], Nat.zero_le _, rfl, Kp.refl _ _, World.ownsRow_nil _ _ _ _, by show Rw _ _ _; rw [List.take_zero]; rfl⟩
  case round =>
    obtain ⟨k, cs, hk, rfl, HK, HO, HR⟩ := hrel
    have hz := HK.out.size
    by_cases hlt : k < l.length
    · obtain ⟨b, off, D, at', A, B, T, N, E, body, els, uE, uB, uL, rfl, -, hd, m0, m1, m2, m3, m4, m5, m6, m7, m8, hE, hB, hL⟩ := (HS.out.keep HK.out (by simp)).nth k hlt
      obtain ⟨aE, cE, rfl⟩ := hE.slice
      obtain ⟨aB, cB, rfl⟩ := hB.slice
      obtain ⟨aL, cL, rfl⟩ := hL.slice
      have hwt : Sx.wE n E + Sx.wS n body + Sx.wS n els ≤ 1000000 := HWT.out k _ hd
      have HD := hide hd
      have HE := hide hE
      have HB := hide hB
      have HL := hide hL
      have HOL := hide (own_lt HO.out)
      have hk0 : (0 : Int) ≤ (k : Int) := by omega
      have hk1 : (k : Int) < (l.length : Int) := by omega
      have hblt := World.block_lt_of_cell? _ _ m0
      have HN := hide (S9.new wr D at' (bs A) (bs B) (bs T) N (.slice aE E.length cE) (.slice aB body.length cB) (.slice aL els.length cL) 53)
      clear hE hB hL hd
      go_wp2_with fail
      refine (IHE.out _ P E _ (HE.out.keep ((Kp.refl [] _).alloc _) (by simp)) (by omega)).mono ?_
      rintro e w1 ⟨a5, cap5, rfl, hE5, hk5⟩
      have hs1 := HN.out.keep hk5 (by simp)
      have HS1 := hide (hs1.setE (.slice a5 E.length cap5))
      have K1 : Hid (Kp [] wr (w1.setCell ⟨wr.heap.size, 6, none⟩ (.slice a5 E.length cap5))) := (((Kp.refl [] _).alloc _).trans hk5).nb (Nat.le_refl _) _ _
      have HE5 := hide ((hE5.base (P' := fun b => wr.heap.size < b) (fun b _ hb => by simp at hb; omega)).keep (Kp.rb (b := wr.heap.size) (S := []) (Kp.refl _ _) 6 (.slice a5 E.length cap5)) (by simp))
      have hsz1 := hs1.lt
      obtain ⟨-, -, -, -, -, -, x6, x7, x8, xf⟩ := hs1
      have xf6 := xf 6
      clear hE5 hk5 xf
      go_wp2_with fail
      refine (IH.out _ P body _ (HB.out.keep K1.out (by simp)) (by omega)).mono ?_
      rintro e w2 ⟨a6, cap6, rfl, hB6, hk6⟩
      have hs2 := HS1.out.keep hk6 (by simp)
      have HS2 := hide (hs2.setBody (.slice a6 body.length cap6))
      have K2 : Hid (Kp [] wr (w2.setCell ⟨wr.heap.size, 7, none⟩ (.slice a6 body.length cap6))) := (K1.out.trans hk6).nb (Nat.le_refl _) _ _
      have kr2 := Kp.rb (b := wr.heap.size) (S := []) (Kp.refl _ w2) 7 (.slice a6 body.length cap6)
      have HE6 := hide ((HE5.out.keep hk6 (by simp)).keep kr2 (by simp))
      have HB6 := hide ((hB6.base (P' := fun b => wr.heap.size < b) (fun b _ hb => by simp [World.setCell] at hb; omega)).keep kr2 (by simp))
      have hsz2 := hs2.lt
      obtain ⟨-, -, -, -, -, -, -, y7, y8, yf⟩ := hs2
      have yf7 := yf 7
      clear hB6 hk6 yf x6 x7 x8 xf6 kr2
      go_wp2_with fail
      refine (IH.out _ P els _ (HL.out.keep K2.out (by simp)) (by omega)).mono ?_
      rintro e w3 ⟨a7, cap7, rfl, hL7, hk7⟩
      have hs3 := HS2.out.keep hk7 (by simp)
      have K3 : Hid (Kp [] wr (w3.setCell ⟨wr.heap.size, 8, none⟩ (.slice a7 els.length cap7))) := (K2.out.trans hk7).nb (Nat.le_refl _) _ _
      have kr3 := Kp.rb (b := wr.heap.size) (S := []) (Kp.refl _ w3) 8 (.slice a7 els.length cap7)
      have hE7 := (HE6.out.keep hk7 (by simp)).keep kr3 (by simp)
      have hB7 := (HB6.out.keep hk7 (by simp)).keep kr3 (by simp)
      have hL8 := (hL7.base (P' := fun b => wr.heap.size < b) (fun b _ hb => by simp [World.setCell] at hb; omega)).keep kr3 (by simp)
      have HRE : Hid (RS (w3.setCell ⟨wr.heap.size, 8, none⟩ (.slice a7 els.length cap7)) (fun b => wr.heap.size < b) n (Sx.tS D at' A B T N E body els) [.int .i64 D, .int .i64 at', .string (bs A), .string (bs B), .string (bs T), .int .i64 N, .slice a5 E.length cap5, .slice a6 body.length cap6, .slice a7 els.length cap7]) :=
        ⟨D, at', A, B, T, N, E, body, els, _, _, _, rfl, rfl, hE7, hB7, hL8⟩
      have hsz3 := hs3.lt
      obtain ⟨z0, z1, z2, z3, z4, z5, z6, z7, z8, zf⟩ := hs3
      have zf8 := zf 8
      have HO5 := hide (own_keep HO.out K3.out (by simp))
      have HR5 := hide (HR.out.mono (fun d cc hd => hd.keep K3.out (by simp)))
      clear hL7 hk7 zf y7 y8 yf7 kr3 hE7 hB7 hL8
      go_wp2_with (at_builtin; refine wpList_append_lies _ rfl _ _ 43 rfl w.heap.size 53 i0 (.agg #[.int .i64 0, .int .i64 0, .string ⟨#[]⟩, .string ⟨#[]⟩, .string ⟨#[]⟩, .int .i64 0, .slice none 0 0, .slice none 0 0, .slice none 0 0]) 9 144 Tryd.underlying43 hi0 hz0 hz1 hz2 rfl (by decide) _ _ _ rfl (by exact HO5.out.alloc _) ⟨w3.heap.size, 0, none⟩ 1 1 [.int .i64 D, .int .i64 at', .string (bs A), .string (bs B), .string (bs T), .int .i64 N, .slice a5 E.length cap5, .slice a6 body.length cap6, .slice a7 els.length cap7] rfl rfl ?c1 ?c2 ?c3 ?c4 ?c5 ?c6 _ rfl ?_)
      case c1 => exact cells_nine_new _ _ (by simp [World.setCell]) _ _ _ _ _ _ _ _ _ _
      case c2 => intro u hu; simp at hu; rcases hu with rfl | rfl | rfl | rfl | rfl | rfl | rfl | rfl | rfl <;> rfl
      case c3 => decide
      case c4 => unfold maxLen; omega
      case c5 => omega
      case c6 => simp [World.setCell]; omega
      · intro g cap9 w6 hown hgrow hat hlt6
        have hblk := own_blk HO5.out
        have hR : Rw (RS ((w3.setCell ⟨wr.heap.size, 8, none⟩ (.slice a7 els.length cap7)).alloc (.cells #[.int .i64 D, .int .i64 at', .string (bs A), .string (bs B), .string (bs T), .int .i64 N, .slice a5 E.length cap5, .slice a6 body.length cap6, .slice a7 els.length cap7] 53)) (fun b => w.heap.size ≤ b ∧ some b ≠ Value.ownBlock u3) n) (l.take k ++ [Sx.tS D at' A B T N E body els]) (cs ++ [.int .i64 D, .int .i64 at', .string (bs A), .string (bs B), .string (bs T), .int .i64 N, .slice a5 E.length cap5, .slice a6 body.length cap6, .slice a7 els.length cap7]) := by
          refine Rw.snoc (HR5.out.mono (fun d cc hd => hd.keep (S := []) ((Kp.refl _ _).alloc _) (by simp))) ?_
          refine (HRE.out.base (P' := fun b => w.heap.size ≤ b ∧ some b ≠ Value.ownBlock u3) (fun b _ hb => ?_)).keep (S := []) ((Kp.refl _ _).alloc _) (by simp)
          exact ⟨by omega, fun e => by have := HOL.out b e; omega⟩
        have hR6 := rows_grow (R := fun w P d c => RS w P n d c) (fun w w' S P d c h hk hS => h.keep hk hS) (fun w P P' d c h hP => h.base hP) hR hgrow (by simpa [World.setCell] using hat)
        rw [← take_snoc HD.out] at hR6
        have HR6 := hide hR6
        have HO6 := hide hown
        have HK6 := hide (((HK.out.trans K3.out).alloc (.cells #[.int .i64 D, .int .i64 at', .string (bs A), .string (bs B), .string (bs T), .int .i64 N, .slice a5 E.length cap5, .slice a6 body.length cap6, .slice a7 els.length cap7] 53)).grown hgrow (fun k hk => .inl (hblk k (by rw [hk]; simp))))
        clear hR hR6 hown hgrow hat
        go_wp2
        go_roundw
        case rel => exact ⟨k + 1, _, by omega, by go_num, HK6.out, HO6.out, HR6.out⟩
        case measure => simp [intOf]; omega
    · obtain rfl : k = l.length := by omega
      have hR := HR.out
      rw [List.take_length] at hR
      have hSl : Sl (RS wr (fun b => w.heap.size ≤ b) n) wr (fun b => w.heap.size ≤ b) l u3 := Sl.of_own HO.out rfl (fun b hb => hb) (hR.mono (fun d cc hd => hd.base (fun b _ hb => hb.1)))
      obtain ⟨a5, c5, rfl, -⟩ := id hSl
      have HSl := hide hSl
      clear hR hSl
      go_wp2
      go_ret
      exact ⟨a5, c5, rfl, HSl.out, HK.out⟩
theorem copyStmts_any (n : Nat) : CSt n := by
  induction n with
  | zero => intro w P l v h; cases h
  | succ n ih => exact copyStmts_step n ih
end Go.Proofs.YtdnlnpdaplonfabDoor

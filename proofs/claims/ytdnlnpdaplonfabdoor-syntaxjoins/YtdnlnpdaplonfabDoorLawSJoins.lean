import Derived.Test.YtdnlnpdaplonfabDoorSynBe
import Derived.Test.YtdnlnpdaplonfabDoorSynSl
import Derived.Test.YtdnlnpdaplonfabDoorSynWt
import Derived.Test.YtdnlnpdaplonfabDoorPlB
import Derived.Test.YtdnlnpdaplonfabDoorSnM
import Derived.Test.YtdnlnpdaplonfabDoorRkC
import Derived.Test.YtdnlnpdaplonfabDoorSynEv
import Derived.Test.YtdnlnpdaplonfabDoorSynBo
import Derived.Deep.Cut
import Derived.Deep.RegionLaw
/- The law SyntaxJoins: it answers true. -/
namespace Go.Proofs.YtdnlnpdaplonfabDoor
open Go.RowKit

theorem sbegun (w : World) (hw : WTab w) : Calls Tryd.prog 10 #[] w fun e w' => e = .returned (.bool true) ∧ Kp [] w w' := sbegun_any parse_text w hw
theorem GL.keep {w w' : World} {P : Nat → Prop} {n : Nat} {l : List Sx.Tr} {v : Value} (h : Sl (RG w P n) w P l v) (hk : Kp [] w w') : Sl (RG w' P n) w' P l v := h.keep hk (by simp) (fun d c h => h.keep hk (by simp))
theorem cat_list (s t : ByteArray) : (t ++ ⟨#[10]⟩ ++ s).data.toList = t.data.toList ++ 10 :: s.data.toList := by simp
theorem cat_size (s t : ByteArray) : (t ++ (⟨#[10]⟩ : ByteArray) ++ s).size = t.size + 1 + s.size := by
  rw [ByteArray.size_append, ByteArray.size_append]
  rfl
/-- A fault of reading: its code. -/
theorem parsed_code (l : List UInt8) (hl : l.length ≤ 12000) {c p : Int} {r : List Tk.Tok} (h : Sx.parsed l = .inr (c, p, r)) : c ≠ 0 := by
  unfold Sx.parsed Sx.parse at h
  split at h
  · rename_i hc
    simp only [Sum.inr.injEq, Prod.mk.injEq] at h
    obtain ⟨rfl, -, -⟩ := h
    simpa using hc
  · have := Sx.inn_prog l.length 72001 12001 (Tk.scan l).1 (Tk.scan_places l hl)
    rw [h] at this
    exact this.1
theorem sjoins_huge (s s2 : ByteArray) (w : World) (hw : WTab w) (hs : s.size ≤ maxLen) (hs2 : s2.size ≤ maxLen) (hbig : 5900 < s.size ∨ 5900 < s2.size) :
    Calls Tryd.prog 6 #[.string s, .string s2] w fun e w' => e = .returned (.bool true) ∧ Kp [] w w' := by
  unfold maxLen at hs hs2
  have HW := hide hw
  clear hw
  by_cases h1 : 5900 < s.size
  · have d1 : decide ((5900 : Int) < (s.size : Int)) = true := by simp; omega
    go_enter Tryd.func6, Tryd.ntmps6
    go_wp2_with fail
    refine (sbegun _ HW.out).mono ?_
    rintro e w1 ⟨rfl, hb1⟩
    go_wp2
    go_ret
    exact ⟨rfl, hb1⟩
  · have d1 : decide ((5900 : Int) < (s.size : Int)) = false := by simp; omega
    have d2 : decide ((5900 : Int) < (s2.size : Int)) = true := by simp; omega
    clear hbig
    go_enter Tryd.func6, Tryd.ntmps6
    go_wp2_with fail
    refine (sbegun _ HW.out).mono ?_
    rintro e w1 ⟨rfl, hb1⟩
    go_wp2
    go_ret
    exact ⟨rfl, hb1⟩
/-- What Parse tells: a slice of stages (none, with a fault), the fault. -/
def TT (m : Sx.Rs (List Sx.Tr)) (w0 w' : World) (a : Option Addr) (n cap : Nat) (c p : Int) : Prop := match m with
  | .inl (l, _, _) => n = l.length ∧ c = 0 ∧ p = 0 ∧ ∃ m, Sl (RG w' (fun b => w0.heap.size ≤ b) m) w' (fun b => w0.heap.size ≤ b) l (.slice a l.length cap)
  | .inr (code, q, _) => n = 0 ∧ cap = 0 ∧ a = none ∧ c = code ∧ p = q
theorem parse_tt (s : ByteArray) (w : World) (hw : WTab w) (hs : s.size ≤ 12000) : Calls Tryd.prog 11 #[.string s] w fun e w' => ∃ a n cap c p, e = .returned (.tuple #[.agg #[.slice a n cap], .agg #[.int .i64 c, .int .i64 p]]) ∧ Hid (TT (Sx.parsed s.data.toList) w w' a n cap c p) ∧ Hid (Kp [] w w') := by
  refine (parse_text s w hw hs).mono ?_
  intro e w' hp
  rcases hm : Sx.parsed s.data.toList with ⟨l, st, r⟩ | ⟨code, p, r⟩
  · rw [hm] at hp
    obtain ⟨m, a, cap, rfl, hSl, hk⟩ := hp
    exact ⟨a, l.length, cap, 0, 0, rfl, ⟨rfl, rfl, rfl, m, hSl⟩, hk⟩
  · rw [hm] at hp
    obtain ⟨rfl, hk⟩ := hp
    exact ⟨none, 0, 0, code, p, rfl, ⟨rfl, rfl, rfl, rfl, rfl⟩, hk⟩
theorem uFlt : Tryd.prog.underlying 25 = some (.struct (Tryd.prog.fieldsOf 25)) := by kernel_rfl
theorem heldFlt : Tryd.prog.stoodInHeld 25 = false := by kernel_rfl
theorem eqlF (x y a b : Int) (w : World) : Sem.run Tryd.prog (binOp .eql 25 (.agg #[.int .i64 x, .int .i64 y]) (.agg #[.int .i64 a, .int .i64 b])) w = .ok (.bool (x == a && y == b)) w := by
  have u3 := Tryd.underlying3
  have a3 := Tryd.isAgg3
  have z3 := Tryd.sizeOf3
  rw [run_eql_struct, show (10000 : Nat) = 9999 + 1 from rfl, run_equalIn_agg w 9999 25 _ _ uFlt heldFlt]
  simp only [Program.fieldsOf, Tryd.underlying25]
  by_cases q1 : x = a
  · by_cases q2 : y = b
    · subst q1 q2
      go_simp
    · have r2 : (y == b) = false := by simpa using q2
      subst q1
      go_simp
  · have r1 : (x == a) = false := by simpa using q1
    go_simp
theorem SL.dp {w : World} {P : Nat → Prop} {n : Nat} {l : List Sx.Tr} {v : Value} (h : SL w P n l v) : Sx.DpS n l := by
  induction n generalizing l v with
  | zero => cases h
  | succ n ih =>
    intro d hd
    obtain ⟨a, cap, rfl⟩ := h.slice
    obtain ⟨i, hi, he⟩ := List.getElem_of_mem hd
    obtain ⟨b, off, D, at', A, B, T, N, E, body, els, uE, uB, uL, -, -, h1, -, -, -, -, -, -, -, -, -, -, hB, hL⟩ := h.nth i hi
    rw [List.getElem?_eq_getElem hi, he] at h1
    have h2 := Option.some.inj h1
    rw [h2]
    exact ⟨ih hB, ih hL⟩
theorem gl_dp {w : World} {P : Nat → Prop} {n : Nat} {l : List Sx.Tr} {a : Option Addr} {cap : Nat} (h : Sl (RG w P n) w P l (.slice a l.length cap)) : ∀ d ∈ l, Sx.DpS n (Sx.gB d) := by
  intro d hd
  obtain ⟨i, hi, he⟩ := List.getElem_of_mem hd
  obtain ⟨b, off, nm, at', ps, body, uP, uB, -, -, h1, -, -, -, -, -, hB⟩ := GL.nth h i hi
  rw [List.getElem?_eq_getElem hi, he] at h1
  have h2 := Option.some.inj h1
  rw [h2]
  exact hB.dp
theorem GL.nth' {w : World} {P : Nat → Prop} {n k : Nat} {l : List Sx.Tr} {a : Option Addr} {cap : Nat} (h : Sl (RG w P n) w P l (.slice a k cap)) (hk : k = l.length) (i : Nat) (hi : i < l.length) :
    ∃ b off nm at' ps body uP uB, a = some ⟨b, off, none⟩ ∧ P b ∧ l[i]? = some (Sx.tG nm at' ps body) ∧
      w.cell? ⟨b, off + i * 4, none⟩ = some (.string (bs nm)) ∧ w.cell? ⟨b, off + i * 4 + 1, none⟩ = some (.int .i64 at') ∧ w.cell? ⟨b, off + i * 4 + 2, none⟩ = some uP ∧
      w.cell? ⟨b, off + i * 4 + 3, none⟩ = some uB ∧ Sl RP w P ps uP ∧ SL w P n body uB := by
  subst hk
  exact GL.nth h i hi
theorem first_at {e f j : Nat} {ts : List Tk.Tok} {nm : List UInt8} {at' : Int} {ps body l : List Sx.Tr} {s : Sx.St} {r : List Tk.Tok} (h : Sx.prog e f j ts = .inl (Sx.tG nm at' ps body :: l, s, r)) (hp : ∀ t ∈ ts, t.at' ≤ e) : 0 ≤ at' ∧ at' ≤ (e : Int) := by
  unfold Sx.prog at h
  obtain ⟨x, s1, r1, h1, h2⟩ := Sx.bnd_ok h
  obtain ⟨m, hm, -⟩ := Sx.cnt_stages _ _ _ _ _ _ _ _ _ h2
  simp at hm
  unfold Sx.stage at h1
  obtain ⟨u1, t1, q1, g1, g2⟩ := Sx.bnd_ok h1
  obtain ⟨nm2, t2, q2, g3, g4⟩ := Sx.bnd_ok g2
  obtain ⟨pl, t3, q3, g5, g6⟩ := Sx.bnd_ok g4
  obtain ⟨body2, t4, q4, g7, g8⟩ := Sx.bnd_ok g6
  have hx := (Sx.inl_ok g8).1
  have h3 := hm.1
  rw [← hx] at h3
  simp [Sx.tG] at h3
  rw [h3.2.1]
  exact Sx.Qt.place hp
/-- Variables of a program and a fault. -/
structure PF (w : World) (b : Nat) (a : Option Addr) (n cap : Nat) (c p : Int) : Prop where
  c0 : w.cell? ⟨b, 0, none⟩ = some (.slice a n cap)
  c1 : w.cell? ⟨b + 1, 0, none⟩ = some (.int .i64 c)
  c2 : w.cell? ⟨b + 1, 1, none⟩ = some (.int .i64 p)
theorem PF.new (w : World) (a : Option Addr) (n cap : Nat) (c p : Int) : PF ((w.alloc (.cells #[.slice a n cap] 33)).alloc (.cells #[.int .i64 c, .int .i64 p] 25)) w.heap.size a n cap c p := by
  constructor <;> simp [go_sem]
theorem PF.keep {w w' : World} {b : Nat} {a : Option Addr} {n cap : Nat} {c p : Int} (h : PF w b a n cap c p) (k : Kp [] w w') : PF w' b a n cap c p := ⟨k.some h.c0 (by simp), k.some h.c1 (by simp), k.some h.c2 (by simp)⟩
theorem PF.lt {w : World} {b : Nat} {a : Option Addr} {n cap : Nat} {c p : Int} (h : PF w b a n cap c p) : b + 1 < w.heap.size := World.block_lt_of_cell? w ⟨b + 1, 0, none⟩ h.c1

set_option maxRecDepth 100000 in
set_option maxHeartbeats 4000000 in
theorem sjoins_walk (s s2 : ByteArray) (w : World) (hw : WTab w) (hs : s.size ≤ 5900) (hs2 : s2.size ≤ 5900) :
    Calls Tryd.prog 6 #[.string s, .string s2] w fun e w' => e = .returned (.bool true) ∧ Kp [] w w' := by
  have d1 : decide ((5900 : Int) < (s.size : Int)) = false := by simp; omega
  have d2 : decide ((5900 : Int) < (s2.size : Int)) = false := by simp; omega
  have hcs := cat_size s2 s
  have HP3 := hide (fun w hw => parse_tt (s ++ ⟨#[10]⟩ ++ s2) w hw (by omega))
  rw [cat_list] at HP3
  have HW := hide hw
  have Z1 := hide (Lib.size_eq s)
  have Z2 := hide (Lib.size_eq s2)
  clear hw hcs
  go_enter Tryd.func6, Tryd.ntmps6
  go_wp2_with fail
  refine (sbegun _ HW.out).mono ?_
  rintro e w1 ⟨rfl, hb1⟩
  have K1 := hide hb1
  have HW1 := hide (HW.out.below hb1.below)
  clear hb1
  go_wp2_with fail
  refine (parse_tt s _ HW1.out (by omega)).mono ?_
  rintro e w2 ⟨a1, n1, p1, c1, q1, rfl, T1, k2⟩
  have K2 := hide (((K1.out.trans k2.out).alloc (.cells #[.slice a1 n1 p1] 33)).alloc (.cells #[.int .i64 c1, .int .i64 q1] 25))
  have F1 := hide (PF.new w2 a1 n1 p1 c1 q1)
  go_wp2_with fail
  refine (parse_tt s2 _ (HW.out.below K2.out.below) (by omega)).mono ?_
  rintro e w3 ⟨a2, n2, p2, c2, q2, rfl, T2, k3⟩
  have K3 := hide (((K2.out.trans k3.out).alloc (.cells #[.slice a2 n2 p2] 33)).alloc (.cells #[.int .i64 c2, .int .i64 q2] 25))
  have F1' := hide ((F1.out.keep k3.out).keep (((Kp.refl [] _).alloc (.cells #[.slice a2 n2 p2] 33)).alloc (.cells #[.int .i64 c2, .int .i64 q2] 25)))
  have F2 := hide (PF.new w3 a2 n2 p2 c2 q2)
  clear F1
  go_wp2_with fail
  refine (HP3.out _ (HW.out.below K3.out.below)).mono ?_
  rintro e w4 ⟨a3, n3, p3, c3, q3, rfl, T3, k4⟩
  have K4 := hide ((K3.out.trans k4.out))
  have F1 := hide (F1'.out.keep k4.out)
  have F2' := hide (F2.out.keep k4.out)
  clear F1' F2 HP3
  obtain ⟨x0, x1, x2⟩ := F1.out
  obtain ⟨y0, y1, y2⟩ := F2'.out
  have hx := F1.out.lt
  have hy := F2'.out.lt
  have hx1 : w2.heap.size < w4.heap.size := by omega
  have hy1 : w3.heap.size < w4.heap.size := by omega
  have nx : ¬ w2.heap.size = w4.heap.size := by omega
  have nx1 : ¬ w2.heap.size + 1 = w4.heap.size := by omega
  have nx2 : ¬ w2.heap.size = w4.heap.size + 1 := by omega
  have ny : ¬ w3.heap.size = w4.heap.size := by omega
  have ny1 : ¬ w3.heap.size + 1 = w4.heap.size := by omega
  have ny2 : ¬ w3.heap.size = w4.heap.size + 1 := by omega
  rcases hm1 : Sx.parsed s.data.toList with ⟨P, st1, r1⟩ | ⟨code1, pl1, r1⟩
  rotate_left
  · rw [hm1] at T1
    obtain ⟨rfl, rfl, rfl, rfl, rfl⟩ := T1.out
    have hc0 := parsed_code _ (by have := Z1.out; omega) hm1
    have HM1 := hide hm1
    clear hm1 T1
    by_cases hc : c1 = 5 ∨ c1 = 7
    · have HC : Hid ((Tk.scan s2.data.toList).2.1 = 0 → c3 = c1 ∧ q3 = q1) := fun h0 => by
        obtain ⟨r', hr'⟩ := Sx.join_wrong s.data.toList s2.data.toList (by have := Z1.out; omega) (by have := Z2.out; omega) HM1.out hc h0
        have h3 := T3.out
        rw [hr'] at h3
        obtain ⟨-, -, -, e1, e2⟩ := h3
        exact ⟨e1, e2⟩
      have hF3 := PF.new w4 a3 n3 p3 c3 q3
      have k45 : Kp [] w4 ((w4.alloc (.cells #[.slice a3 n3 p3] 33)).alloc (.cells #[.int .i64 c3, .int .i64 q3] 25)) := ((Kp.refl [] _).alloc _).alloc _
      have HF3 := hide hF3
      have HF1 := hide (F1.out.keep k45)
      have K5 := hide (K4.out.trans k45)
      have HRS := hide (fun w => rscan_in s2 w (by omega))
      clear hF3 k45
      have ht : (c1 == 5 || c1 == 7) = true := by rcases hc with rfl | rfl <;> rfl
      have hcc : ((c1 == 5) = true) ∨ ((c1 == 5) = false ∧ (c1 == 7) = true) := by rcases hc with rfl | rfl <;> simp
      clear ht
      rcases hcc with e5 | ⟨e5, e7⟩
      all_goals
        go_wp2_with fail
        refine (HRS.out _).mono ?_
        rintro e w5 ⟨v, rfl, -, hb5⟩
        have G3 := HF3.out.keep (Kp.of_below hb5)
        have G1 := HF1.out.keep (Kp.of_below hb5)
        have K6 := hide (K5.out.trans (Kp.of_below hb5))
        obtain ⟨-, u1, u2⟩ := G3
        obtain ⟨-, t1, t2⟩ := G1
        have l1 := World.block_lt_of_cell? _ _ u1
        have l2 := World.block_lt_of_cell? _ _ t1
        simp only at l1 l2
        have v1 : ¬ w4.heap.size + 1 = w5.heap.size := by omega
        have v2 : ¬ w2.heap.size + 1 = w5.heap.size := by omega
        have hE := eqlF c3 q3 c1 q1
        unfold scanV
        clear hb5 hx hy hx1 hy1 nx nx1 nx2 ny ny1 ny2 x0 x1 x2 y0 y1 y2
        by_cases hsame : c3 = c1 ∧ q3 = q1
        · have hB : (c3 == c1 && q3 == q1) = true := by simp [hsame]
          rw [hB] at hE
          go_wp2
          go_ret
          exact ⟨rfl, K6.out.alloc _⟩
        · have hB : (c3 == c1 && q3 == q1) = false := by
            rw [Bool.eq_false_iff]
            intro h
            simp at h
            exact hsame h
          rw [hB] at hE
          have hcz : (Tk.scan s2.data.toList).2.1 ≠ 0 := fun h => hsame (HC.out h)
          have e9 : ((Tk.scan s2.data.toList).2.1 != 0) = true := by simpa using hcz
          generalize (Tk.scan s2.data.toList).2.1 = cc at *
          generalize (Tk.scan s2.data.toList).2.2 = qq at *
          go_wp2
          go_ret
          exact ⟨rfl, K6.out.alloc _⟩
    · have e5 : (c1 == 5) = false := by simp; omega
      have e7 : (c1 == 7) = false := by simp; omega
      have e0 : (c1 != 0) = true := by simpa using hc0
      go_wp2
      go_ret
      exact ⟨rfl, (K4.out.alloc _).alloc _⟩
  · rw [hm1] at T1
    obtain ⟨rfl, rfl, rfl, m1, hSl1⟩ := T1.out
    have HM1 := hide hm1
    have hle1 := Sx.le_prog _ _ _ _ _ _ _ (parsed_ok hm1).2
    have HS1 := hide (GL.keep hSl1 ((((Kp.refl [] w2).alloc (.cells #[.slice a1 P.length p1] 33)).alloc (.cells #[.int .i64 0, .int .i64 0] 25)).trans (k3.out.trans ((((Kp.refl [] w3).alloc (.cells #[.slice a2 n2 p2] 33)).alloc (.cells #[.int .i64 c2, .int .i64 q2] 25)).trans k4.out))))
    clear hm1 T1 hSl1
    rcases hm2 : Sx.parsed s2.data.toList with ⟨Q, st2, r2⟩ | ⟨code2, pl2, r2⟩
    rotate_left
    · rw [hm2] at T2
      obtain ⟨rfl, rfl, rfl, rfl, rfl⟩ := T2.out
      have hc0 := parsed_code _ (by have := Z2.out; omega) hm2
      have e0 : (c2 != 0) = true := by simpa using hc0
      clear hm2 T2
      go_wp2
      go_ret
      exact ⟨rfl, (K4.out.alloc _).alloc _⟩
    · rw [hm2] at T2
      obtain ⟨rfl, rfl, rfl, m2, hSl2⟩ := T2.out
      have HM2 := hide hm2
      have hle2 := Sx.le_prog _ _ _ _ _ _ _ (parsed_ok hm2).2
      have HS2 := hide (GL.keep hSl2 ((((Kp.refl [] w3).alloc (.cells #[.slice a2 Q.length p2] 33)).alloc (.cells #[.int .i64 0, .int .i64 0] 25)).trans k4.out))
      have HJ := hide (Sx.join_right s.data.toList s2.data.toList (by have := Z1.out; omega) (by have := Z2.out; omega) HM1.out hm2)
      clear hm2 T2 hSl2
      have k45 : Kp [] w4 ((w4.alloc (.cells #[.slice a3 n3 p3] 33)).alloc (.cells #[.int .i64 c3, .int .i64 q3] 25)) := ((Kp.refl [] _).alloc _).alloc _
      have K45 := hide k45
      have HF3 := hide (PF.new w4 a3 n3 p3 c3 q3)
      clear k45
      by_cases hbig : 10 < P.length + Q.length
      · obtain ⟨pp, qq, hj⟩ := HJ.out.2 (.inl hbig)
        rw [hj] at T3
        obtain ⟨rfl, rfl, rfl, rfl, rfl⟩ := T3.out
        have dd : decide ((10 : Int) < (P.length : Int) + (Q.length : Int)) = true := by simp; omega
        clear hj T3
        go_wp2
        go_quiet (fail)
        go_wp2
        go_ret
        exact ⟨rfl, (((K4.out.alloc _).alloc _).drewN _)⟩
      · have dd : decide ((10 : Int) < (P.length : Int) + (Q.length : Int)) = false := by simp; omega
        have hcn1 := Sx.cnt_prog _ _ _ _ _ _ _ (parsed_ok HM1.out).2 m1 (gl_dp HS1.out)
        have hcn2 := Sx.cnt_prog _ _ _ _ _ _ _ (parsed_ok HM2.out).2 m2 (gl_dp HS2.out)
        have C1 : Hid (∀ w', Kp [] w4 w' → Calls Tryd.prog 15 #[.agg #[.slice a1 P.length p1]] w' fun e w'' => e = .returned (.int .i64 (st1.stmts : Int)) ∧ Kp [] w' w'') := fun w' k => by
          have := rcount_any m1 (countStmts_any m1) w' _ P a1 p1 (GL.keep HS1.out k) (by omega) (by omega)
          rw [← hcn1] at this
          exact this
        have C2 : Hid (∀ w', Kp [] w4 w' → Calls Tryd.prog 15 #[.agg #[.slice a2 Q.length p2]] w' fun e w'' => e = .returned (.int .i64 (st2.stmts : Int)) ∧ Kp [] w' w'') := fun w' k => by
          have := rcount_any m2 (countStmts_any m2) w' _ Q a2 p2 (GL.keep HS2.out k) (by omega) (by omega)
          rw [← hcn2] at this
          exact this
        have hb1 := hle1.1
        have hb2 := hle2.1
        clear hcn1 hcn2
        have hwr : IntKind.i64.wrap ((P.length : Int) + (Q.length : Int)) = (P.length : Int) + (Q.length : Int) := by rw [IntKind.wrap_i64]; omega
        have hws : IntKind.i64.wrap ((st1.stmts : Int) + (st2.stmts : Int)) = (st1.stmts : Int) + (st2.stmts : Int) := by rw [IntKind.wrap_i64]; omega
        by_cases h300 : 300 < st2.stmts + st1.stmts
        · have ds : decide ((300 : Int) < (st1.stmts : Int) + (st2.stmts : Int)) = true := by simp; omega
          obtain ⟨pp, qq, hj⟩ := HJ.out.2 (.inr h300)
          rw [hj] at T3
          obtain ⟨rfl, rfl, rfl, rfl, rfl⟩ := T3.out
          clear hj T3
          go_wp2_with fail
          go_region_held_law (fun w' => w'.cell? ⟨w2.heap.size, 0, none⟩ = some (.slice a1 P.length p1) ∧ w'.cell? ⟨w3.heap.size, 0, none⟩ = some (.slice a2 Q.length p2)) ((first | exact ⟨by assumption, by assumption⟩ | go_keep))
            ((first
              | (have hL1 := L1; clear hL1; go_at_call 15; refine (C2.out _ L1.out).mono ?_; rintro e w6 ⟨rfl, hk6⟩; have L2 := hide (L1.out.trans hk6); have M2 := hide (M1.out.trans hk6); have z0 := hk6.some t0 (by simp); have z1 := hk6.some t1 (by simp); clear hk6)
              | (go_at_call 15; refine (C1.out _ K45.out.drew).mono ?_; rintro e w5 ⟨rfl, hk5⟩; have L1 := hide (K45.out.drew.trans hk5); have M1 := hide ((Kp.refl [] _).drew.trans hk5); have t0 : w5.cell? ⟨w2.heap.size, 0, none⟩ = some (.slice a1 P.length p1) := L1.out.some x0 (by simp); have t1 : w5.cell? ⟨w3.heap.size, 0, none⟩ = some (.slice a2 Q.length p2) := L1.out.some y0 (by simp); clear hk5)))
          have G3 := HF3.out.keep M2.out
          obtain ⟨-, g1, g2⟩ := G3
          go_wp2
          go_ret
          exact ⟨rfl, K4.out.trans L2.out⟩
        · have ds : decide ((300 : Int) < (st1.stmts : Int) + (st2.stmts : Int)) = false := by simp; omega
          obtain ⟨Q', zz, qq, hj, hsh⟩ := HJ.out.1 (by omega) (by omega)
          rw [hj] at T3
          obtain ⟨hn3, rfl, rfl, m3, hSl3⟩ := T3.out
          rw [← hn3] at hSl3
          have HN3 := hide hn3
          have HS3 := hide hSl3
          clear hn3
          have HM3 := hide hj
          have HSH := hide hsh
          clear hj T3 hsh hSl3
          go_wp2_with fail
          go_region_held_law (fun w' => w'.cell? ⟨w2.heap.size, 0, none⟩ = some (.slice a1 P.length p1) ∧ w'.cell? ⟨w3.heap.size, 0, none⟩ = some (.slice a2 Q.length p2)) ((first | exact ⟨by assumption, by assumption⟩ | go_keep))
            ((first
              | (have hL1 := L1; clear hL1; go_at_call 15; refine (C2.out _ L1.out).mono ?_; rintro e w6 ⟨rfl, hk6⟩; have L2 := hide (L1.out.trans hk6); have M2 := hide (M1.out.trans hk6); have z0 := hk6.some t0 (by simp); have z1 := hk6.some t1 (by simp); clear hk6)
              | (go_at_call 15; refine (C1.out _ K45.out.drew).mono ?_; rintro e w5 ⟨rfl, hk5⟩; have L1 := hide (K45.out.drew.trans hk5); have M1 := hide ((Kp.refl [] _).drew.trans hk5); have t0 : w5.cell? ⟨w2.heap.size, 0, none⟩ = some (.slice a1 P.length p1) := L1.out.some x0 (by simp); have t1 : w5.cell? ⟨w3.heap.size, 0, none⟩ = some (.slice a2 Q.length p2) := L1.out.some y0 (by simp); clear hk5)))
          have G3 := HF3.out.keep M2.out
          have G2 := F2'.out.keep L2.out
          have G1 := F1.out.keep L2.out
          obtain ⟨b0, b1, b2⟩ := G3
          obtain ⟨i0, hi0, hz0, hz1, hz2⟩ := info_parts Tryd.infoStage
          have hl1 := hle1.2.2
          have hl2 := hle2.2.2
          have hlm1 := hle1.2.1
          have hlm2 := hle2.2.1
          have C3 : Hid (∀ w', Kp [] w4 w' → Calls Tryd.prog 18 #[.agg #[.slice a1 P.length p1]] w' (CO (m1 + m2 + m3) P w')) := fun w' k => copyProgram_own _ w' _ P a1 p1 (GL.more (GL.keep HS1.out k) (by omega)) (parsed_sm (by have := Z1.out; omega) HM1.out _)
          have C4 : Hid (∀ w', Kp [] w4 w' → Calls Tryd.prog 18 #[.agg #[.slice a2 Q.length p2]] w' (CO (m1 + m2 + m3) Q w')) := fun w' k => copyProgram_own _ w' _ Q a2 p2 (GL.more (GL.keep HS2.out k) (by omega)) (parsed_sm (by have := Z2.out; omega) HM2.out _)
          have h63 : P.length + Q.length ≤ maxLen := by unfold maxLen; omega
          have hbytes : (P.length + Q.length) * 72 ≤ 140737488355328 := by omega
          have hfd := field_prog
          have lz0 : w2.heap.size < w6.heap.size := World.block_lt_of_cell? _ _ z0
          have lz1 : w3.heap.size < w6.heap.size := World.block_lt_of_cell? _ _ z1
          have n61 := World.new_ne w6 _ z0
          have n62 := World.new_ne w6 _ z1
          clear G1 G2
          go_wp2_with fail
          go_cut [13] from 90 (fun v13 wx => ∃ bb ab cb, v13 = .pointer (some ⟨bb, 0, none⟩) ∧ wx.cell? ⟨bb, 0, none⟩ = some (.slice ab (P.length + Q.length) cb) ∧ Hid (Kp [] w6 wx) ∧ Hid (Sl (RG wx (fun _ => True) (m1 + m2 + m3)) wx (fun _ => True) (P ++ Q) (.slice ab (P.length + Q.length) cb)))
          case first =>
            go_region_held_law (fun w' => w'.cell? ⟨w2.heap.size, 0, none⟩ = some (.slice a1 P.length p1) ∧ w'.cell? ⟨w3.heap.size, 0, none⟩ = some (.slice a2 Q.length p2)) ((first | exact ⟨by assumption, by assumption⟩ | go_keep))
              ((first
                | (have hHC := HCY1; clear hHC; go_at_call 18; refine (C4.out _ (L2.out.trans (HCY1.out.kp.trans ?_))).mono ?_; (repeat (first | exact Kp.refl [] _ | refine Kp.drew ?_ | refine Kp.alloc ?_ _)); rintro e w8 hco; obtain ⟨B2, g2, cc2, cs2, rfl, hcy2, hkx2, hlo2⟩ := Cy.mk' (w0 := w7) hco (by (repeat (first | exact Kp.refl [] _ | refine Kp.drew ?_ | refine Kp.alloc ?_ _))) hl2; have HCY2 := hide hcy2; have CY18 := hide (HCY1.out.keep hcy2.kp); have HNW := hide hcy2.cells; have HON := hide (rg_one hcy2.rw); have hln2 := hcy2.rw.len RG_len; have hB8 : B1 ≤ w8.heap.size := (by have := HCY1.out.up; have := HCY1.out.lt; have := CY18.out.top; omega); have y08 := hcy2.kp.some y07 (by simp); have y18 := hcy2.kp.some y17 (by simp); have top8 := hcy2.lo; have up2 := hcy2.up; have lt2 := hcy2.lt; have n81 := World.new_ne w8 _ y08; have n82 := World.new_ne w8 _ y18; (try (have fb2 := hcy2.kp.some fb1 (by simp); have fz2 : w8.frozen? ⟨w6.heap.size, 0, none⟩ = false := (hcy2.kp.frozen (p := ⟨w6.heap.size, 0, none⟩) (World.block_lt_of_cell? _ _ fb1) (by simp)).trans fz1)); (try (have gb2 : w8.cell? ⟨w7.heap.size, 0, none⟩ = some (.slice none 0 0) := hkx2.some (by (simp [go_sem]; done)) (by (simp; done)); have gz2 : w8.frozen? ⟨w7.heap.size, 0, none⟩ = false := (hkx2.frozen (p := ⟨w7.heap.size, 0, none⟩) (by (simp; done)) (by (simp; done))).trans (by (simp [go_sem]; done)); have hb72 : w7.heap.size < B2 := (by (simp at hlo2; omega)))); clear hco hcy2 hkx2)
                | (go_at_call 18; refine (C3.out _ (L2.out.trans ?_)).mono ?_; (repeat (first | exact Kp.refl [] _ | refine Kp.drew ?_ | refine Kp.alloc ?_ _)); rintro e w7 hco; obtain ⟨B1, g1, cc1, cs1, rfl, hcy1, hkx1, hlo1⟩ := Cy.mk' (w0 := w6) hco (by (repeat (first | exact Kp.refl [] _ | refine Kp.drew ?_ | refine Kp.alloc ?_ _))) hl1; have HCY1 := hide hcy1; have y07 := hcy1.kp.some z0 (by simp); have y17 := hcy1.kp.some z1 (by simp); have up1 := hcy1.up; have lo1 := hcy1.lo; have lt1 := hcy1.lt; have n71 := World.new_ne w7 _ y07; have n72 := World.new_ne w7 _ y17; (try (have fb1 : w7.cell? ⟨w6.heap.size, 0, none⟩ = some (.slice none 0 0) := hkx1.some (by (simp [go_sem]; done)) (by (simp; done)); have fz1 : w7.frozen? ⟨w6.heap.size, 0, none⟩ = false := (hkx1.frozen (p := ⟨w6.heap.size, 0, none⟩) (by (simp; done)) (by (simp; done))).trans (by (simp [go_sem]; done)); have hb61 : w6.heap.size < B1 := (by (simp at hlo1; omega)))); clear hco hcy1 hkx1)
                | (refine step_append_lies _ rfl _ _ 31 rfl B1 45 i0 (.agg #[.string ⟨#[]⟩, .int .i64 0, .slice none 0 0, .slice none 0 0]) 4 72 Tryd.underlying31 hi0 hz0 hz1 hz2 rfl (by decide) (.slice (some ⟨g1, 0, none⟩) P.length cc1) P.length cs1 rfl (by first | exact CY18.out.own | exact CY18.out.own.alloc _) ⟨g2, 0, none⟩ Q.length cc2 cs2 rfl hln2 (by first | exact HNW.out | exact fun j u hu => ((Kp.refl [] _).alloc _).some (HNW.out j u hu) (by simp)) HON.out hl2 h63 hbytes (by first | exact hB8 | (simp; omega)) _ rfl ?_; intro g9 cc9 w9 hown9 hgrow9 hat9 hlt9; obtain ⟨X3, hX1, hX2, HG9⟩ : ∃ X3, Cy (m1 + m2 + m3) P w6 X3 B1 w7.heap.size g1 cc1 cs1 ∧ Cy (m1 + m2 + m3) Q w7 X3 B2 w8.heap.size g2 cc2 cs2 ∧ X3.grownBy w9 (some g1) := ⟨_, (by first | exact CY18.out | exact CY18.out.keep ((Kp.refl [] _).alloc _)), (by first | exact HCY2.out | exact HCY2.out.keep ((Kp.refl [] _).alloc _)), hgrow9⟩; have HX1 := hide hX1; have HX2 := hide hX2; have HGR := hide HG9; have HOW := hide hown9; have kgx := Kp.of_grown hgrow9; have hq9 := hat9; simp [Value.ownBlock] at hq9; have y09 : w9.cell? ⟨w2.heap.size, 0, none⟩ = some (.slice a1 P.length p1) := kgx.some (by first | exact y08 | exact ((Kp.refl [] _).alloc _).some y08 (by simp)) (by first | (simp [Value.ownBlock]; done) | (simp [Value.ownBlock]; omega)); have y19 : w9.cell? ⟨w3.heap.size, 0, none⟩ = some (.slice a2 Q.length p2) := kgx.some (by first | exact y18 | exact ((Kp.refl [] _).alloc _).some y18 (by simp)) (by first | (simp [Value.ownBlock]; done) | (simp [Value.ownBlock]; omega)); (try (have fb3 := kgx.some fb2 (by first | (simp [Value.ownBlock]; done) | (simp [Value.ownBlock]; omega)); have fz3 : w9.frozen? ⟨w6.heap.size, 0, none⟩ = false := (kgx.frozen (p := ⟨w6.heap.size, 0, none⟩) (World.block_lt_of_cell? _ _ fb2) (by first | (simp [Value.ownBlock]; done) | (simp [Value.ownBlock]; omega))).trans fz2)); (try (have gb3 := kgx.some gb2 (by first | (simp [Value.ownBlock]; done) | (simp [Value.ownBlock]; omega)); have gz3 : w9.frozen? ⟨w7.heap.size, 0, none⟩ = false := (kgx.frozen (p := ⟨w7.heap.size, 0, none⟩) (World.block_lt_of_cell? _ _ gb2) (by first | (simp [Value.ownBlock]; done) | (simp [Value.ownBlock]; omega))).trans gz2)); (try (have hb3 : w9.cell? ⟨w8.heap.size, 0, none⟩ = some (.slice none 0 0) := kgx.some (by (simp [go_sem]; done)) (by first | (simp [Value.ownBlock]; done) | (simp [Value.ownBlock]; omega)); have hz3 : w9.frozen? ⟨w8.heap.size, 0, none⟩ = false := (kgx.frozen (p := ⟨w8.heap.size, 0, none⟩) (by (simp; done)) (by first | (simp [Value.ownBlock]; done) | (simp [Value.ownBlock]; omega))).trans (by (simp [go_sem]; done)))); clear hown9 hgrow9 hat9 kgx hX1 hX2 HG9)))
            all_goals
              go_wp2_with fail
              go_meet
              case rel =>
                first
                | exact ⟨_, _, _, rfl, way_set HX1.out HX2.out (Nat.le_refl _) HOW.out HGR.out ⟨by omega, by omega⟩ fb3 (by omega)⟩
                | exact ⟨_, _, _, rfl, way_set HX1.out HX2.out (Nat.le_refl _) HOW.out HGR.out ⟨by omega, by omega⟩ gb3 (by omega)⟩
                | exact ⟨_, _, _, rfl, way_set HX1.out HX2.out (Nat.le_refl _) HOW.out HGR.out ⟨by omega, by omega⟩ hb3 (by omega)⟩
                | exact ⟨_, _, _, rfl, way_new HX1.out HX2.out (Nat.le_refl _) HOW.out HGR.out hlt9⟩
          case rest =>
            obtain ⟨bb, ab, cb, rfl, hcell, HKC, HSB⟩ := hcut
            have kc := L2.out.trans HKC.out
            have v3 := HKC.out.some b0 (by simp)
            have vc := HKC.out.some b1 (by simp)
            have vp := HKC.out.some z0 (by simp)
            have vq := HKC.out.some z1 (by simp)
            have hSr := GL.keep HS3.out kc
            have hSq := GL.keep HS2.out kc
            obtain ⟨nm0, at0, ps0, bd0, bd0', QT, QT', rfl, rfl⟩ : ∃ nm0 at0 ps0 bd0 bd0' QT QT', Q = Sx.tG nm0 at0 ps0 bd0 :: QT ∧ Q' = Sx.tG nm0 (at0 + ((s.data.toList.length + 1 : Nat) : Int)) ps0 bd0' :: QT' := by
              cases HSH.out with
              | nil => simp at hl2
              | cons h1 h2 => exact ⟨_, _, _, _, _, _, _, rfl, rfl⟩
            have hat0 := first_at (parsed_ok HM2.out).2 (Tk.scan_places _ (by have := Z2.out; omega))
            obtain ⟨br, fr, nmr, atr, psr, bdr, uPr, uBr, rfl, -, hdr, -, mr1, -, -, -, -⟩ := GL.nth' hSr HN3.out P.length (by simp)
            have hatr : atr = at0 + ((s.data.toList.length + 1 : Nat) : Int) := by
              rw [List.getElem?_append_right (Nat.le_refl _), Nat.sub_self] at hdr
              simp [Sx.tG] at hdr
              exact hdr.2.1.symm
            obtain ⟨bq, fq, nmq, atq, psq, bdq, uPq, uBq, rfl, -, hdq, -, mq1, -, -, -, -⟩ := GL.nth hSq 0 (by simp)
            have hatq : atq = at0 := by
              simp [Sx.tG] at hdq
              exact hdq.2.1.symm
            subst hatq
            rw [← Z1.out] at hatr
            have C5 : Hid (∀ w', Kp [] wc w' → Calls Tryd.prog 17 #[.agg #[.slice (some ⟨br, fr, none⟩) n3 p3], .agg #[.slice ab (P.length + (Sx.tG nm0 atq ps0 bd0 :: QT).length) cb]] w' fun e w'' => e = .returned (.bool true) ∧ Kp [] w' w'') := fun w' k => by
              have hr' := GL.more (k := m1 + m2 + m3) (GL.keep hSr k) (by omega)
              have hb' := GL.keep HSB.out k
              rw [HN3.out] at hr' ⊢
              rw [← List.length_append] at hb' ⊢
              have := same_any (m1 + m2 + m3) w' _ _ _ _ _ _ _ _ hr' hb' (parsed_sm (by simp; have := Z1.out; have := Z2.out; omega) HM3.out _)
              rw [show Sx.sameG (m1 + m2 + m3) _ _ = true from Sx.all2_app (Sx.sameG_refl _ P) (HSH.out.same _)] at this
              exact this
            simp only [Nat.zero_mul, Nat.add_zero] at mq1
            have hnr : (P.length : Int) < (n3 : Int) := by rw [HN3.out]; simp; omega
            have hp0 : (0 : Int) ≤ (P.length : Int) := by omega
            have hatr' : atr = atq + (s.size : Int) + 1 := by rw [hatr]; push_cast; omega
            subst hatr'
            have hz2 := Z2.out
            have hw1 : IntKind.i64.wrap (atq + (s.size : Int)) = atq + (s.size : Int) := by rw [IntKind.wrap_i64]; omega
            have hw2 : IntKind.i64.wrap (atq + (s.size : Int) + 1) = atq + (s.size : Int) + 1 := by rw [IntKind.wrap_i64]; omega
            simp only [List.length_cons] at vq hcell C5
            clear hdr hdq hSr hSq hatr hz2
            go_wp2_with fail
            go_region_held_law (fun w' => w'.cell? ⟨w4.heap.size + 1, 0, none⟩ = some (.int .i64 0) ∧ w'.cell? ⟨w4.heap.size, 0, none⟩ = some (.slice (some ⟨br, fr, none⟩) n3 p3) ∧ w'.cell? ⟨bb, 0, none⟩ = some (.slice ab (P.length + (QT.length + 1)) cb) ∧ w'.cell? ⟨w2.heap.size, 0, none⟩ = some (.slice a1 P.length p1) ∧ w'.cell? ⟨w3.heap.size, 0, none⟩ = some (.slice (some ⟨bq, fq, none⟩) (QT.length + 1) p2) ∧ w'.cell? ⟨br, fr + P.length * 4 + 1, none⟩ = some (.int .i64 (atq + (s.size : Int) + 1)) ∧ w'.cell? ⟨bq, fq + 1, none⟩ = some (.int .i64 atq))
              ((first | exact ⟨by assumption, by assumption, by assumption, by assumption, by assumption, by assumption, by assumption⟩ | go_keep))
              ((go_at_call 17; refine (C5.out _ (Kp.refl [] _).drew).mono ?_; rintro e w10 ⟨rfl, hk10⟩; have kt := (Kp.refl [] wc).drew.trans hk10; have s1 := kt.some vc (by simp); have s2 := kt.some v3 (by simp); have s3 := kt.some hcell (by simp); have s4 := kt.some vp (by simp); have s5 := kt.some vq (by simp); have s6 := kt.some mr1 (by simp); have s7 := kt.some mq1 (by simp); have K10 := hide kt; clear hk10 kt))
            go_wp2
            go_ret
            exact ⟨rfl, (K4.out.trans kc).trans K10.out⟩
theorem sjoins_any (s s2 : ByteArray) (w : World) (hw : WTab w) (hs : s.size ≤ maxLen) (hs2 : s2.size ≤ maxLen) :
    Calls Tryd.prog 6 #[.string s, .string s2] w fun e w' => e = .returned (.bool true) ∧ Kp [] w w' := by
  by_cases h : 5900 < s.size ∨ 5900 < s2.size
  · exact sjoins_huge s s2 w hw hs hs2 h
  · exact sjoins_walk s s2 w hw (by omega) (by omega)
end Go.Proofs.YtdnlnpdaplonfabDoor

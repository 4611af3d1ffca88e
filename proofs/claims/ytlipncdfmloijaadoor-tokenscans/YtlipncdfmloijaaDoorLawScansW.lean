/- The law TokenScans: it answers true, where the document's own Scan tells the tokens as they are. -/
import Derived.Test.YtlipncdfmloijaaDoorTokP
import Derived.Test.YtlipncdfmloijaaDoorTokH
import Derived.Deep.RegionWith
namespace Go.Proofs.YtlipncdfmloijaaDoor
open Go.RowKit

theorem below_new (w : World) (o : Obj) : Below w.heap.size w (w.alloc o) := (Below.refl _ w).alloc (Nat.le_refl _) _
/-- A variable of a fault. -/
structure FC (w : World) (b : Nat) (c a : Int) : Prop where
  c0 : w.cell? ⟨b, 0, none⟩ = some (.int .i64 c)
  c1 : w.cell? ⟨b, 1, none⟩ = some (.int .i64 a)
  lt : b < w.heap.size
theorem FC.below {w w' : World} {b : Nat} {c a : Int} (h : FC w b c a) (hb : Below w.heap.size w w') : FC w' b c a :=
  ⟨(hb.cell (p := ⟨b, 0, none⟩) h.lt).trans h.c0, (hb.cell (p := ⟨b, 1, none⟩) h.lt).trans h.c1, Nat.lt_of_lt_of_le h.lt hb.size⟩
theorem fc_new (w : World) (c a : Int) : FC (w.alloc (.cells #[.int .i64 c, .int .i64 a] 24)) w.heap.size c a := by
  constructor
  · simp [go_sem]
  · simp [go_sem]
  · simp

theorem scan_big (l : List UInt8) (h : 12000 < l.length) : Tk.scan l = ([], 1, 12000) := by unfold Tk.scan; rw [if_pos h]

/-- What a call of Scan leaves. -/
theorem scan_row (s : ByteArray) (w : World) (hw : WTab w) (hs : s.size ≤ 20000) :
    Calls Tryd.prog 25 #[.string s] w fun e w' => ∃ a c, e = .returned (.tuple #[.slice a (Tk.scan s.data.toList).1.length c, .agg #[.int .i64 (Tk.scan s.data.toList).2.1, .int .i64 (Tk.scan s.data.toList).2.2]]) ∧ Hid (RowT w' a (Tk.scan s.data.toList).1) ∧ Hid (WTab w') ∧ Hid (Below w.heap.size w w') := by
  by_cases hb : 12000 < s.size
  · refine (scan_huge s w (by unfold maxLen; omega) hb).mono ?_
    rintro e w' ⟨rfl, hb2⟩
    rw [scan_big _ (by rw [← Lib.size_eq]; exact hb)]
    exact ⟨none, 0, rfl, (fun h => by cases h), hw.below hb2, hb2⟩
  · refine (scan_in s w hw (by omega)).mono ?_
    rintro e w' ⟨v, rfl, hown, hb⟩
    obtain ⟨a, c, rfl, hr⟩ := rowT_of_own hown
    exact ⟨a, c, rfl, hr, hw.below hb, hb⟩

set_option maxHeartbeats 400000 in
theorem scans_huge (s : ByteArray) (w : World) (hw : WTab w) (hs : s.size ≤ maxLen) (hbig : 20000 < s.size) :
    Calls Tryd.prog 7 #[.string s] w fun e w' => e = .returned (.bool true) ∧ Below w.heap.size w w' := by
  unfold maxLen at hs
  have HW := hide hw
  clear hw
  go_enter Tryd.func7, Tryd.ntmps7
  go_wp2_with fail
  refine (begun_any _ HW.out).mono ?_
  rintro e w1 ⟨rfl, hb1⟩
  go_wp2
  go_ret
  exact ⟨rfl, hb1⟩

/-- What the last statement needs. -/
structure Full (w wr : World) (b1 b2 : Nat) (c r : Int) (a1 a2 : Option Addr) (t : List Tk.Tok) : Prop where
  tab : WTab wr
  f1 : FC wr b1 c r
  f2 : FC wr b2 c r
  r1 : RowT wr a1 t
  r2 : RowT wr a2 t
  below : Below w.heap.size w wr
theorem Full.on {w wr wr' : World} {b1 b2 : Nat} {c r : Int} {a1 a2 : Option Addr} {t : List Tk.Tok} (h : Full w wr b1 b2 c r a1 a2 t) (hb : Below wr.heap.size wr wr') : Full w wr' b1 b2 c r a1 a2 t :=
  ⟨h.tab.below hb, h.f1.below hb, h.f2.below hb, h.r1.below hb, h.r2.below hb, h.below.trans (hb.mono h.below.size)⟩

set_option maxRecDepth 100000 in
set_option maxHeartbeats 1000000 in
theorem scans_in (s : ByteArray) (w : World) (hw : WTab w) (hs : s.size ≤ 20000)
    (H2 : Hid (∀ w, Calls Tryd.prog 26 #[.string s] w fun e w' => ∃ a c, e = .returned (.tuple #[.slice a (Tk.scan s.data.toList).1.length c, .agg #[.int .i64 (Tk.scan s.data.toList).2.1, .int .i64 (Tk.scan s.data.toList).2.2]]) ∧ Hid (RowT w' a (Tk.scan s.data.toList).1) ∧ Hid (Below w.heap.size w w'))) :
    Calls Tryd.prog 7 #[.string s] w fun e w' => e = .returned (.bool true) ∧ Below w.heap.size w w' := by
  have hcnt := Tk.scan_count s.data.toList
  rw [← Lib.size_eq] at hcnt
  have H1 := hide (fun w hw => scan_row s w hw (by omega))
  have HSm := hide (fun a b ca cb w ha hb => sameTokens_any (Tk.scan s.data.toList).1 a b ca cb w (by omega) ha hb)
  have HWd := hide (fun w hw => word_any s w hw)
  have HIw := hide (fun w => isWord_any s w)
  have HNm := hide (fun w hw => name_any s w hw (by omega))
  have HIn := hide (fun w => isName_any s w (by omega))
  have d1 : decide ((20000 : Int) < (s.size : Int)) = false := by simp; omega
  have HW := hide hw
  clear hw
  generalize Tk.isW s.data.toList = b1 at *
  generalize Tk.isN s.data.toList = b2 at *
  generalize (Tk.scan s.data.toList).2.1 = c at *
  generalize (Tk.scan s.data.toList).2.2 = r at *
  generalize (Tk.scan s.data.toList).1 = t at *
  have heq := eqlF_same c r
  go_enter Tryd.func7, Tryd.ntmps7
  go_wp2_with fail
  refine (begun_any _ HW.out).mono ?_
  rintro e w1 ⟨rfl, hb1⟩
  have HB01 := hide hb1
  have HW1 := hide (HW.out.below hb1)
  clear hb1
  go_wp2_with fail
  refine (H1.out _ HW1.out).mono ?_
  rintro e w2 ⟨a1, p1, rfl, HR1, HW2, HB2⟩
  have HB02 := hide (HB01.out.trans (HB2.out.mono HB01.out.size))
  clear HB2
  go_wp2_with fail
  refine (H2.out _).mono ?_
  rintro e w3 ⟨a2, p2, rfl, HR2, HB3⟩
  have HFL : Hid (Full w (w3.alloc (Obj.cells #[Value.int IntKind.i64 c, Value.int IntKind.i64 r] 24)) w2.heap.size w3.heap.size c r a1 a2 t) :=
    ⟨((HW2.out.below (below_new _ _)).below HB3.out).below (below_new _ _), ((fc_new w2 c r).below HB3.out).below (below_new _ _), fc_new w3 c r, ((HR1.out.below (below_new _ _)).below HB3.out).below (below_new _ _), HR2.out.below (below_new _ _),
      ((HB02.out.alloc HB02.out.size _).trans (HB3.out.mono (by have := HB02.out.size; simp; omega))).alloc (by have := HB02.out.size; have := HB3.out.size; simp at this; omega) _⟩
  obtain ⟨x0, x1, xl⟩ := ((fc_new w2 c r).below HB3.out)
  clear HB3 HR1 HR2 HW HW1 HW2 HB01
  go_wp2_with fail
  refine (HSm.out _ _ _ _ _ HFL.out.r1 HFL.out.r2).mono ?_
  rintro e w4 ⟨rfl, hb4⟩
  have HF4 := hide (HFL.out.on hb4)
  clear hb4 HFL x0 x1 xl
  go_wp2_with fail
  refine (HWd.out _ HF4.out.tab).mono ?_
  rintro e w5 ⟨rfl, hw⟩
  subst w5
  go_wp2_with fail
  refine (HIw.out _).mono ?_
  rintro e w6 ⟨rfl, hb6⟩
  have HF6 := hide (HF4.out.on hb6)
  clear hb6 HF4
  go_wp2_with fail
  refine (HNm.out _ HF6.out.tab).mono ?_
  rintro e w7 ⟨rfl, hw⟩
  subst w7
  go_wp2_with fail
  refine (HIn.out _).mono ?_
  rintro e w8 ⟨rfl, hb8⟩
  have HF8 := hide (HF6.out.on hb8)
  clear hb8 HF6
  go_wp2
  go_ret
  exact ⟨by simp, HF8.out.below⟩
end Go.Proofs.YtlipncdfmloijaaDoor

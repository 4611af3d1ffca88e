/- The law TokenJoins: it answers true. -/
import Derived.Test.YtlipncdfmloijabDoorTokK
namespace Go.Proofs.YtlipncdfmloijabDoor
open Go.RowKit

theorem cat_list (s t : ByteArray) : (t ++ ⟨#[10]⟩ ++ s).data.toList = t.data.toList ++ 10 :: s.data.toList := by simp
theorem cat_size (s t : ByteArray) : (t ++ (⟨#[10]⟩ : ByteArray) ++ s).size = t.size + 1 + s.size := by
  rw [ByteArray.size_append, ByteArray.size_append]
  rfl

/-- A row of tokens, where it has any. -/
def RowT (w : World) (a : Option Addr) (l : List Tk.Tok) : Prop := 0 < l.length → ∃ g, a = some ⟨g, 0, none⟩ ∧ g < w.heap.size ∧ TAt w g l
theorem RowT.below {w w' : World} {a : Option Addr} {l : List Tk.Tok} (h : RowT w a l) (hb : Below w.heap.size w w') : RowT w' a l := fun hp => by
  obtain ⟨g, ha, hg, hT⟩ := h hp
  exact ⟨g, ha, Nat.lt_of_lt_of_le hg hb.size, hT.below hb hg⟩
theorem rowT_of_own {w : World} {B : Nat} {v : Value} {l : List Tk.Tok} (h : w.ownsRow B 29 4 v l.length (tcells l)) : ∃ a c, v = .slice a l.length c ∧ RowT w a l := by
  rcases Nat.eq_zero_or_pos l.length with h0 | hp
  · rcases h.2 with ⟨hv, _⟩ | ⟨g, cap, cur, hv, _⟩
    · exact ⟨none, 0, by rw [h0]; exact hv, fun h => by omega⟩
    · exact ⟨_, _, hv, fun h => by omega⟩
  · obtain ⟨g, cap, hv, _, hg, _, _, hT⟩ := own_tat h hp
    exact ⟨_, _, hv, fun _ => ⟨g, rfl, hg, hT⟩⟩

/-- What a call of Scan leaves. -/
theorem scan_row (s : ByteArray) (w : World) (hw : WTab w) (hs : s.size ≤ 12000) :
    Calls Tryd.prog 5 #[.string s] w fun e w' => ∃ a c, e = .returned (.tuple #[.slice a (Tk.scan s.data.toList).1.length c, .agg #[.int .i64 (Tk.scan s.data.toList).2.1, .int .i64 (Tk.scan s.data.toList).2.2]]) ∧ Hid (RowT w' a (Tk.scan s.data.toList).1) ∧ Hid (WTab w') ∧ Hid (Below w.heap.size w w') := by
  refine (scan_in s w hw hs).mono ?_
  rintro e w' ⟨v, rfl, hown, hb⟩
  obtain ⟨a, c, rfl, hr⟩ := rowT_of_own hown
  exact ⟨a, c, rfl, hr, hw.below hb, hb⟩

set_option maxHeartbeats 400000 in
theorem joins_huge (s s2 : ByteArray) (w : World) (hw : WTab w) (hs : s.size ≤ maxLen) (hs2 : s2.size ≤ maxLen) (hbig : 5900 < s.size ∨ 5900 < s2.size) :
    Calls Tryd.prog 3 #[.string s, .string s2] w fun e w' => e = .returned (.bool true) ∧ Below w.heap.size w w' := by
  unfold maxLen at hs hs2
  have HW := hide hw
  clear hw
  by_cases h1 : 5900 < s.size
  · have d1 : decide ((5900 : Int) < (s.size : Int)) = true := by simp; omega
    go_enter Tryd.func3, Tryd.ntmps3
    go_wp2_with fail
    refine (begun_any _ HW.out).mono ?_
    rintro e w1 ⟨rfl, hb1⟩
    go_wp2
    go_ret
    exact ⟨rfl, hb1⟩
  · have d1 : decide ((5900 : Int) < (s.size : Int)) = false := by simp; omega
    have d2 : decide ((5900 : Int) < (s2.size : Int)) = true := by simp; omega
    clear hbig
    go_enter Tryd.func3, Tryd.ntmps3
    go_wp2_with fail
    refine (begun_any _ HW.out).mono ?_
    rintro e w1 ⟨rfl, hb1⟩
    go_wp2
    go_ret
    exact ⟨rfl, hb1⟩

/-- A variable of a fault. -/
structure FC (w : World) (b : Nat) (c a : Int) : Prop where
  c0 : w.cell? ⟨b, 0, none⟩ = some (.int .i64 c)
  c1 : w.cell? ⟨b, 1, none⟩ = some (.int .i64 a)
  lt : b < w.heap.size
theorem FC.below {w w' : World} {b : Nat} {c a : Int} (h : FC w b c a) (hb : Below w.heap.size w w') : FC w' b c a :=
  ⟨(hb.cell (p := ⟨b, 0, none⟩) h.lt).trans h.c0, (hb.cell (p := ⟨b, 1, none⟩) h.lt).trans h.c1, Nat.lt_of_lt_of_le h.lt hb.size⟩
theorem fc_new (w : World) (c a : Int) : FC (w.alloc (.cells #[.int .i64 c, .int .i64 a] 25)) w.heap.size c a := by
  constructor
  · simp [go_sem]
  · simp [go_sem]
  · simp
theorem below_new (w : World) (o : Obj) : Below w.heap.size w (w.alloc o) := (Below.refl _ w).alloc (Nat.le_refl _) _

set_option maxRecDepth 100000 in
set_option maxHeartbeats 1000000 in
theorem joins_walk (s s2 : ByteArray) (t1 t2 t3 : List Tk.Tok) (c1 r1 c2 r2 c3 r3 : Int) (w : World) (hw : WTab w) (hs : s.size ≤ 5900) (hs2 : s2.size ≤ 5900)
    (H1 : Hid (∀ w, WTab w → Calls Tryd.prog 5 #[.string s] w fun e w' => ∃ a c, e = .returned (.tuple #[.slice a t1.length c, .agg #[.int .i64 c1, .int .i64 r1]]) ∧ Hid (RowT w' a t1) ∧ Hid (WTab w') ∧ Hid (Below w.heap.size w w')))
    (H2 : Hid (∀ w, WTab w → Calls Tryd.prog 5 #[.string s2] w fun e w' => ∃ a c, e = .returned (.tuple #[.slice a t2.length c, .agg #[.int .i64 c2, .int .i64 r2]]) ∧ Hid (RowT w' a t2) ∧ Hid (WTab w') ∧ Hid (Below w.heap.size w w')))
    (H3 : Hid (∀ w, WTab w → Calls Tryd.prog 5 #[.string (s ++ ⟨#[10]⟩ ++ s2)] w fun e w' => ∃ a c, e = .returned (.tuple #[.slice a t3.length c, .agg #[.int .i64 c3, .int .i64 r3]]) ∧ Hid (RowT w' a t3) ∧ Hid (WTab w') ∧ Hid (Below w.heap.size w w')))
    (hn1 : t1.length ≤ s.size) (hn2 : t2.length ≤ s2.size) (hr0 : 0 ≤ r2) (hr1 : r2 ≤ (s2.size : Int)) (HP2 : Hid (∀ y ∈ t2, y.at' ≤ s2.size))
    (HC : Hid ((c1 ≠ 0 ∧ c3 = c1 ∧ r3 = r1) ∨ (c1 = 0 ∧ c2 ≠ 0 ∧ c3 = c2 ∧ r3 = r2 + ((s.size : Int) + 1)) ∨ (c1 = 0 ∧ c2 = 0 ∧ c3 = 0 ∧ t3 = t1 ++ t2.map (Tk.shift (s.size + 1))))) :
    Calls Tryd.prog 3 #[.string s, .string s2] w fun e w' => e = .returned (.bool true) ∧ Below w.heap.size w w' := by
  have d1 : decide ((5900 : Int) < (s.size : Int)) = false := by simp; omega
  have d2 : decide ((5900 : Int) < (s2.size : Int)) = false := by simp; omega
  have HW := hide hw
  clear hw
  go_enter Tryd.func3, Tryd.ntmps3
  go_wp2_with fail
  refine (begun_any _ HW.out).mono ?_
  rintro e w1 ⟨rfl, hb1⟩
  have HB01 := hide hb1
  have HW1 := hide (HW.out.below hb1)
  clear hb1
  go_wp2_with fail
  refine (H1.out _ HW1.out).mono ?_
  rintro e w2 ⟨a1, p1, rfl, HR1, HW2, HB2⟩
  have HB02 := hide (HB01.out.trans (HB2.out.mono HB01.out.size))
  clear HB2
  go_wp2_with fail
  refine (H2.out _ (HW2.out.below (below_new _ _))).mono ?_
  rintro e w3 ⟨a2, p2, rfl, HR2, HW3, HB3⟩
  have HF1 := hide ((fc_new w2 c1 r1).below HB3.out)
  have HR1' := hide ((HR1.out.below (below_new _ _)).below HB3.out)
  have HB03 := hide ((HB02.out.alloc HB02.out.size _).trans (HB3.out.mono (by have := HB02.out.size; simp; omega)))
  clear HB3 HR1
  go_wp2_with fail
  refine (H3.out _ (HW3.out.below (below_new _ _))).mono ?_
  rintro e w4 ⟨a3, p3, rfl, HR3, HW4, HB4⟩
  have HF2 := hide ((fc_new w3 c2 r2).below HB4.out)
  have HF1' := hide ((HF1.out.below (below_new _ _)).below HB4.out)
  have HR1'' := hide ((HR1'.out.below (below_new _ _)).below HB4.out)
  have HR2' := hide ((HR2.out.below (below_new _ _)).below HB4.out)
  have HB04 := hide ((HB03.out.alloc HB03.out.size _).trans (HB4.out.mono (by have := HB03.out.size; simp; omega)))
  clear HB4 HR1' HR2 HF1 HW HW1 HW2 HW3
  obtain ⟨x0, x1, xl⟩ := HF1'.out
  obtain ⟨y0, y1, yl⟩ := HF2.out
  have hz4 := HB04.out.size
  rcases HC.out with ⟨h1, h2, h3⟩ | ⟨h1, h2, h3, h4⟩ | ⟨h1, h2, h3, h4⟩
  · have q1 : (c1 != 0) = true := by simpa using h1
    subst h2 h3
    have heq := eqlF_same c3 r3
    clear h1
    go_wp2
    go_ret
    exact ⟨rfl, HB04.out.alloc HB04.out.size _⟩
  · subst h1 h3
    have q2 : (c3 != 0) = true := by simpa using h2
    have hr3 : ((r3 : Int) == r2 + (s.size : Int) + 1) = true := by rw [h4]; simp; omega
    clear h2 h4
    go_wp2
    go_ret
    exact ⟨rfl, HB04.out.alloc HB04.out.size _⟩
  · subst h1 h2 h3
    have hl3 : t3.length = t1.length + t2.length := by rw [h4]; simp
    have q3 : ((t3.length : Int) != (t1.length : Int) + (t2.length : Int)) = false := by rw [hl3]; simp
    have HT3 := hide h4
    clear h4 HC
    go_wp2
    go_loopw [11] (fun i wr => ∃ k : Nat, k ≤ t3.length ∧ i = .int .i64 k ∧ Hid (Below (w4.heap.size + 1) (w4.alloc (Obj.cells #[Value.int IntKind.i64 0, Value.int IntKind.i64 r3] 25)) wr)) (fun i _ => t3.length - (intOf i).toNat)
    case atStart => exact ⟨0, Nat.zero_le _, rfl, Below.refl _ _⟩
    case round =>
      obtain ⟨k, hk, rfl, HB5⟩ := hrel
      have hz5 := HB5.out.size
      simp only [World.size_alloc] at hz5
      have HB5' : Hid (Below (w4.alloc (Obj.cells #[Value.int IntKind.i64 0, Value.int IntKind.i64 r3] 25)).heap.size (w4.alloc (Obj.cells #[Value.int IntKind.i64 0, Value.int IntKind.i64 r3] 25)) wr) := HB5.out.mono (by simp)
      have HR1 := hide ((HR1''.out.below (below_new _ _)).below HB5'.out)
      have HR2 := hide ((HR2'.out.below (below_new _ _)).below HB5'.out)
      have HR3' := hide ((HR3.out.below (below_new _ _)).below HB5'.out)
      by_cases hlt : k < t3.length
      · obtain ⟨g3, rfl, hg3, hT3⟩ := HR3'.out (by omega)
        by_cases hk1 : k < t1.length
        · obtain ⟨g1, rfl, hg1, hT1⟩ := HR1.out (by omega)
          have e1 : t1[k]? = some t1[k] := List.getElem?_eq_getElem hk1
          have e3 : t3[k]? = some t1[k] := by rw [HT3.out, List.getElem?_append_left hk1]; exact e1
          obtain ⟨m0, m1, m2, m3⟩ := hT1 k _ e1
          obtain ⟨n0, n1, n2, n3⟩ := hT3 k _ e3
          clear e1 e3 hT1 hT3
          generalize t1[k] = t at *
          generalize bs t.text = X at *
          have hne := neqT_same t.kind t.at' X t.n
          go_wp2
          go_quiet (fail)
          go_wp2
          go_roundw
          case rel => exact ⟨k + 1, by omega, by go_num, (by repeat (first | exact HB5.out | refine below_drewN ?_ _ | refine Below.drew ?_ | refine Below.alloc ?_ (by first | omega | (simp; omega)) _ | refine Below.setCell ?_ (by first | omega | (simp; omega)) _))⟩
          case measure => simp [intOf]; omega
        · obtain ⟨j, rfl⟩ : ∃ j, k = t1.length + j := ⟨k - t1.length, by omega⟩
          have hj : j < t2.length := by omega
          obtain ⟨g2, rfl, hg2, hT2⟩ := HR2.out (by omega)
          have e1 : t2[j]? = some t2[j] := List.getElem?_eq_getElem hj
          have e3 : t3[t1.length + j]? = some (Tk.shift (s.size + 1) t2[j]) := by
            rw [HT3.out, List.getElem?_append_right (by omega), Nat.add_sub_cancel_left, List.getElem?_map, e1]
            rfl
          obtain ⟨m0, m1, m2, m3⟩ := hT2 j _ e1
          obtain ⟨n0, n1, n2, n3⟩ := hT3 _ _ e3
          have hat := HP2.out _ (List.getElem_mem hj)
          clear e1 e3 hT2 hT3
          generalize t2[j] = t at *
          have es : (Tk.shift (s.size + 1) t).kind = t.kind ∧ (Tk.shift (s.size + 1) t).at' = t.at' + (s.size + 1) ∧ (Tk.shift (s.size + 1) t).text = t.text ∧ (Tk.shift (s.size + 1) t).n = t.n := ⟨rfl, rfl, rfl, rfl⟩
          rw [es.1] at n0
          rw [es.2.1] at n1
          rw [es.2.2.1] at n2
          rw [es.2.2.2] at n3
          clear es
          generalize bs t.text = X at *
          have hne := neqT_same t.kind ((t.at' : Int) + ((s.size : Int) + 1)) X t.n
          have hq : decide (((t1.length : Int) + (j : Int)) < (t1.length : Int)) = false := by simp; omega
          have hcast : ((t.at' + (s.size + 1) : Nat) : Int) = (t.at' : Int) + ((s.size : Int) + 1) := by omega
          rw [hcast] at n1
          go_wp2
          go_quiet (fail)
          go_wp2
          go_roundw
          case rel => exact ⟨t1.length + j + 1, by omega, by go_num, (by repeat (first | exact HB5.out | refine below_drewN ?_ _ | refine Below.drew ?_ | refine Below.alloc ?_ (by first | omega | (simp; omega)) _ | refine Below.setCell ?_ (by first | omega | (simp; omega)) _))⟩
          case measure => simp [intOf]; omega
      · obtain rfl : k = t3.length := by omega
        go_wp2
        go_ret
        exact ⟨rfl, (HB04.out.alloc HB04.out.size _).trans (HB5.out.mono (by omega))⟩

theorem joins_any (s s2 : ByteArray) (w : World) (hw : WTab w) (hs : s.size ≤ maxLen) (hs2 : s2.size ≤ maxLen) :
    Calls Tryd.prog 3 #[.string s, .string s2] w fun e w' => e = .returned (.bool true) ∧ Below w.heap.size w w' := by
  by_cases hbig : 5900 < s.size ∨ 5900 < s2.size
  · exact joins_huge s s2 w hw hs hs2 hbig
  have hz := Lib.size_eq s
  have hz2 := Lib.size_eq s2
  have hcs := cat_size s2 s
  have hj := Tk.scan_join s.data.toList s2.data.toList (by omega) (by omega)
  rw [← hz] at hj
  have H3 := hide (fun w hw => scan_row (s ++ ⟨#[10]⟩ ++ s2) w hw (by omega))
  rw [cat_list] at H3
  have hn1 := Tk.scan_count s.data.toList
  have hn2 := Tk.scan_count s2.data.toList
  have hw2 := Tk.scan_where s2.data.toList (by omega)
  have hp2 := Tk.scan_places s2.data.toList (by omega)
  rw [← hz] at hn1
  rw [← hz2] at hn2 hw2 hp2
  refine joins_walk s s2 _ _ _ _ _ _ _ _ _ w hw (by omega) (by omega) (hide (fun w hw => scan_row s w hw (by omega))) (hide (fun w hw => scan_row s2 w hw (by omega))) H3 hn1 hn2 hw2.1 hw2.2 hp2 ?_
  rw [hj]
  show _ ∨ _
  by_cases h1 : (Tk.scan s.data.toList).2.1 = 0
  · by_cases h2 : (Tk.scan s2.data.toList).2.1 = 0
    · refine .inr (.inr ⟨h1, h2, ?_, ?_⟩)
      · simp [Tk.comb2, Tk.comb, Tk.shiftR, h1, h2]
      · simp [Tk.comb2, Tk.comb, Tk.shiftR, h1, h2]
    · refine .inr (.inl ⟨h1, h2, ?_, ?_⟩)
      · simp [Tk.comb2, Tk.comb, Tk.shiftR, h1, h2]
      · simp [Tk.comb2, Tk.comb, Tk.shiftR, h1, h2]
  · refine .inl ⟨h1, ?_, ?_⟩
    · simp [Tk.comb2, h1]
    · simp [Tk.comb2, h1]
end Go.Proofs.YtlipncdfmloijabDoor

/- The law TextTells, walked: at every text, fault and list it answers true and writes nothing that was there. -/
import Derived.Test.YtmenmlkclggjjaaDoorRAll
namespace Go.Proofs.YtmenmlkclggjjaaDoor
open Go.RowKit


theorem addr_plus (b off k : Nat) : (⟨b, off, none⟩ : Addr).add k = ⟨b, off + k, none⟩ := by
  unfold Addr.add; split <;> simp_all

theorem run_copy (w : World) (ty : TypeId) (l : List (Int × Int)) (lv : Value) (hl : l.length ≤ 300) (hv : FSlice w lv l) :
    ∃ v' w', (Builtin.append_ #[31, 31] ty #[.slice none 0 0, lv]).run Tryd.prog w = .ok v' w' ∧ FSlice w' v' l ∧ Below w.heap.size w w' := by
  obtain ⟨i0, hi0, hz0, hz1, hz2⟩ := info_parts Tryd.info24
  rcases hv with ⟨rfl, a, cap, rfl⟩ | ⟨hp, b, off, cap, rfl, hlt, hF⟩
  · refine ⟨.slice none 0 0, w, ?_, .inl ⟨rfl, _, _, rfl⟩, Below.refl _ _⟩
    cases a with
    | none =>
      have h := run_firstCells_none (P := Tryd.prog) w i0.size 0 0 cap
      simp [Builtin.append_, run_underlying Tryd.underlying31, sizeOf, typeInfo, hi0, Builtin.lenOf, h]
    | some a =>
      have h := run_firstCells_some (P := Tryd.prog) w i0.size 0 a 0 cap [] (by simp) (by simp)
      simp [Builtin.append_, run_underlying Tryd.underlying31, sizeOf, typeInfo, hi0, Builtin.lenOf, h]
  · obtain ⟨v', w', hr, hown, hg, _⟩ := run_append_own (P := Tryd.prog) w w.heap.size 31 ty 24 i0 (.agg #[.int .i64 0, .int .i64 0]) 2 16 Tryd.underlying31 hi0 hz0 hz1 hz2 rfl (by decide) (.slice none 0 0) 0 [] (World.ownsRow_nil _ _ _ _)
      ⟨b, off, none⟩ l.length cap (fcells l) (fcells_len l) (by
        intro j u hj
        have hjl : j < (fcells l).length := (List.getElem?_eq_some_iff.1 hj).1
        rw [fcells_len] at hjl
        obtain ⟨c0, c1⟩ := hF (j / 2) (by omega)
        obtain ⟨e0, e1⟩ := fcells_at l (j / 2) (by omega)
        rw [addr_plus]
        rcases Nat.mod_two_eq_zero_or_one j with e | e
        · rw [show off + j = off + j / 2 * 2 from by omega, c0, ← e0, show j / 2 * 2 = j from by omega, hj]
        · rw [show off + j = off + j / 2 * 2 + 1 from by omega, c1, ← e1, show j / 2 * 2 + 1 = j from by omega, hj]) (fcells_one l) (by unfold maxLen; omega) (by omega) (Nat.le_refl _)
    refine ⟨v', w', hr, FSlice.of_own (B := w.heap.size) (by simpa using hown), ?_⟩
    exact (Below.refl _ _).grown hg (Nat.le_refl _) (fun j hj => by simp [Value.ownBlock] at hj)

theorem wpList_copy {ops : Array Oper} {rest : List Oper} {o : Oper} {a : Act} {w : World} {Q : Exit → Act → World → Prop} (hgd : o.guard = none) (s x : Operand)
    (ho : o.op = .call { callee := .builtin .append, args := #[s, x], argTypes := #[31, 31] }) (l : List (Int × Int)) (lv : Value) (hl : l.length ≤ 300) (hs : a.eval s = .slice none 0 0) (hx : a.eval x = lv) (hv : FSlice w lv l)
    (h : ∀ v' w', Hid (FSlice w' v' l) → Hid (Below w.heap.size w w') → wpList Tryd.prog ops Q rest (a.put o.dst v') w') : wpList Tryd.prog ops Q (o :: rest) a w := by
  refine wpList_plain hgd fun K hK => ?_
  obtain ⟨v', w', hr, h2, h3⟩ := run_copy w o.type l lv hl hv
  unfold Oper.wp execOp
  simp only [ho, resolve, invoke, builtin, Sem.run_bind, Sem.run_pure, Result.andThen_ok, List.map_toArray, List.map_cons, List.map_nil, hs, hx, hr]
  exact hK _ _ (h v' w' h2 h3)

set_option maxRecDepth 100000 in
set_option maxHeartbeats 400000 in
theorem tells_huge (s : ByteArray) (f : Int × Int) (la : Option Addr) (n lc : Nat) (w : World) (hT : Tabs w) (hs : s.size ≤ maxLen) (hn : n ≤ maxLen) (hbig : 20000 < s.size ∨ 300 < n) :
    Calls Tryd.prog 4 #[.string s, .agg #[.int .i64 f.1, .int .i64 f.2], .slice la n lc] w fun e w' => e = .returned (.bool true) ∧ Below w.heap.size w w' := by
  have h4 := hT.size
  have h5 := hT.words 5 _ rfl
  unfold maxLen at hs hn
  have HB : Hid (∀ o, Below w.heap.size w (w.alloc o)) := fun o => (Below.refl _ _).alloc (Nat.le_refl _) _
  by_cases h1 : 20000 < s.size
  all_goals
    go_enter Tryd.func4, Tryd.ntmps4
    go_wp2_with fail
    refine (begun_any _ (by simp) ((HB.out _).cell (p := ⟨0, 5, none⟩) (by show 0 < w.heap.size; omega) |>.trans h5)).mono ?_
    rintro e w1 ⟨rfl, hb⟩
    go_wp2
    go_ret
    exact ⟨rfl, (HB.out _).trans (hb.mono (by simp))⟩

/-- Two cells of a fault. -/
def Two (w : World) (b : Nat) (p : Int × Int) : Prop := b < w.heap.size ∧ w.cell? ⟨b, 0, none⟩ = some (.int .i64 p.1) ∧ w.cell? ⟨b, 1, none⟩ = some (.int .i64 p.2)
theorem Two.below {w w' : World} {b : Nat} {p : Int × Int} (h : Two w b p) (hb : Below w.heap.size w w') : Two w' b p :=
  ⟨by have := hb.size; have := h.1; omega, (hb.cell (p := ⟨b, 0, none⟩) h.1).trans h.2.1, (hb.cell (p := ⟨b, 1, none⟩) h.1).trans h.2.2⟩
theorem Two.new (w : World) (b : Nat) (p : Int × Int) (hb : b = w.heap.size) : Two (w.alloc (.cells #[.int .i64 p.1, .int .i64 p.2] 24)) b p := by
  subst hb
  exact ⟨by simp, by simp [go_sem], by simp [go_sem]⟩

/-- What holds all along the law's walk. -/
structure St (w wk : World) (l O : List (Int × Int)) (f : Int × Int) (lv ov oo : Value) : Prop where
  tabs : Tabs wk
  lv : FSlice wk lv l
  ov : FSlice wk ov l
  oo : FSlice wk oo O
  box : Two wk w.heap.size f
  below : Below w.heap.size w wk
  lt : w.heap.size < wk.heap.size
theorem St.next {w wk w' : World} {l O : List (Int × Int)} {f : Int × Int} {lv ov oo : Value} (h : St w wk l O f lv ov oo) (hb : Below wk.heap.size wk w') : St w w' l O f lv ov oo :=
  ⟨h.tabs.below hb, h.lv.below hb, h.ov.below hb, h.oo.below hb, h.box.below hb, h.below.trans (hb.mono (by have := h.lt; omega)), by have := hb.size; have := h.lt; omega⟩

/-- All of it, at the law's last statement. -/
structure Full (w wk : World) (l O : List (Int × Int)) (f : Int × Int) (lv ov oo : Value) (bE bG bH bK : Nat) (ra rt : Int × Int) : Prop where
  st : St w wk l O f lv ov oo
  e : Two wk bE ra
  g : Two wk bG rt
  h : Two wk bH rt
  k : Two wk bK ra
theorem Full.next {w wk w' : World} {l O : List (Int × Int)} {f : Int × Int} {lv ov oo : Value} {bE bG bH bK : Nat} {ra rt : Int × Int} (h : Full w wk l O f lv ov oo bE bG bH bK ra rt) (hb : Below wk.heap.size wk w') : Full w w' l O f lv ov oo bE bG bH bK ra rt :=
  ⟨h.st.next hb, h.e.below hb, h.g.below hb, h.h.below hb, h.k.below hb⟩

set_option maxRecDepth 100000 in
set_option maxHeartbeats 9000000 in
theorem tells_in (s : ByteArray) (f : Int × Int) (l : List (Int × Int)) (lv : Value) (w : World) (hT : Tabs w) (hs : s.size ≤ 20000) (hl : l.length ≤ 300) (hv : FSlice w lv l) :
    Calls Tryd.prog 4 #[.string s, .agg #[.int .i64 f.1, .int .i64 f.2], lv] w fun e w' => e = .returned (.bool true) ∧ Below w.heap.size w w' := by
  obtain ⟨la, lc, rfl, _⟩ := hv.open_len
  have HS : Hid (s.size ≤ maxLen) := by unfold Hid maxLen; omega
  have d1 : decide ((20000 : Int) < (s.size : Int)) = false := by simp <;> omega
  have d2 : decide ((300 : Int) < (l.length : Int)) = false := by simp <;> omega
  have h4 := hT.size
  have h5 := hT.words 5 _ rfl
  have HT := hide hT
  have HV := hide hv
  have HAll := hide (fun lv W hT hv => all_any s l lv W HS.out hl hT hv)
  have HRAll := hide (fun lv W hT hv => rall_any s l lv W HS.out hl hT hv)
  have HTell := hide (fun W hT => tell_any s f W HS.out hT)
  have HRTell := hide (fun W hT => rtell_any s f W HS.out hT)
  have HOrd := hide (fun lv W hv => order_any l lv W hl hv)
  have HROrd := hide (fun lv W hv => rorder_any l lv W hl hv)
  have hOl : (Pl.ord l).length ≤ l.length := Pl.ordTo_len l l.length
  generalize allL s (Pl.ord l) [] = ra at *
  generalize tellF s f = rt at *
  generalize Pl.ord l = O at *
  clear hT hv
  have HB : Hid (∀ o, Below w.heap.size w (w.alloc o)) := fun o => (Below.refl _ _).alloc (Nat.le_refl _) _
  go_enter Tryd.func4, Tryd.ntmps4
  go_wp2_with fail
  refine (begun_any _ (by simp) ((HB.out _).cell (p := ⟨0, 5, none⟩) (by show 0 < w.heap.size; omega) |>.trans h5)).mono ?_
  rintro e w1 ⟨rfl, hb1⟩
  have b0 : w1.cell? ⟨w.heap.size, 0, none⟩ = some (.int .i64 f.1) := (hb1.cell (p := ⟨w.heap.size, 0, none⟩) (by simp)).trans (by simp [go_sem])
  have b1 : w1.cell? ⟨w.heap.size, 1, none⟩ = some (.int .i64 f.2) := (hb1.cell (p := ⟨w.heap.size, 1, none⟩) (by simp)).trans (by simp [go_sem])
  have z1 : w.heap.size < w1.heap.size := by have := hb1.size; simp at this; omega
  have HB1 := hide ((HB.out _).trans (hb1.mono (by simp)))
  clear hb1 h5
  go_wp2_with (at_builtin; refine wpList_copy rfl _ _ rfl l _ hl rfl rfl (by exact HV.out.below HB1.out) ?_; intro ov w2 HOv HB2)
  have HB12 := hide (HB1.out.trans (HB2.out.mono (by omega)))
  have z2 := HB2.out.size
  have HBox2 := hide (Two.below (w := w1) (b := w.heap.size) (p := f) ⟨z1, b0, b1⟩ HB2.out)
  clear b0 b1
  refine (HOrd.out ov _ HOv.out).mono ?_
  rintro e w3 ⟨oo, rfl, hown3, hb3⟩
  have HS3 : Hid (St w w3 l O f (.slice la l.length lc) ov oo) := by
    have hz3 := hb3.size
    exact ⟨(HT.out.below HB12.out).below hb3, (HV.out.below HB12.out).below hb3, HOv.out.below hb3, FSlice.of_own hown3, HBox2.out.below hb3, HB12.out.trans (hb3.mono (by omega)), by omega⟩
  clear hown3 hb3 HBox2 HB12 HOv
  go_wp2_with fail
  refine (HAll.out ov _ HS3.out.tabs HS3.out.ov).mono ?_
  rintro e w4 ⟨rfl, hb4⟩
  have HS4 : Hid (∀ o, St w (w4.alloc o) l O f (.slice la l.length lc) ov oo) := fun o => (HS3.out.next hb4).next ((Below.refl _ _).alloc (Nat.le_refl _) _)
  have HE4 := hide (Two.new w4 w4.heap.size ra.2 rfl)
  obtain ⟨_, x0, x1⟩ := (HS4.out (.cells #[.int .i64 ra.2.1, .int .i64 ra.2.2] 24)).box
  clear hb4
  go_wp2_with fail
  refine (HTell.out _ (HS4.out _).tabs).mono ?_
  rintro e w5 ⟨rfl, hb5⟩
  have HS5 : Hid (∀ o, St w (w5.alloc o) l O f (.slice la l.length lc) ov oo) := fun o => ((HS4.out _).next hb5).next ((Below.refl _ _).alloc (Nat.le_refl _) _)
  have HE5 : Hid (∀ o, Two (w5.alloc o) w4.heap.size ra.2) := fun o => (HE4.out.below hb5).below ((Below.refl _ _).alloc (Nat.le_refl _) _)
  have HG5 := hide (Two.new w5 w5.heap.size rt.2 rfl)
  obtain ⟨_, y0, y1⟩ := (HS5.out (.cells #[.int .i64 rt.2.1, .int .i64 rt.2.2] 24)).box
  clear hb5 x0 x1 HS4 HE4
  go_wp2_with fail
  refine (HRTell.out _ (HS5.out _).tabs).mono ?_
  rintro e w6 ⟨rfl, hb6⟩
  have HS6 : Hid (∀ o, St w (w6.alloc o) l O f (.slice la l.length lc) ov oo) := fun o => ((HS5.out _).next hb6).next ((Below.refl _ _).alloc (Nat.le_refl _) _)
  have HE6 : Hid (∀ o, Two (w6.alloc o) w4.heap.size ra.2) := fun o => ((HE5.out _).below hb6).below ((Below.refl _ _).alloc (Nat.le_refl _) _)
  have HG6 : Hid (∀ o, Two (w6.alloc o) w5.heap.size rt.2) := fun o => (HG5.out.below hb6).below ((Below.refl _ _).alloc (Nat.le_refl _) _)
  have HH6 := hide (Two.new w6 w6.heap.size rt.2 rfl)
  clear hb6 y0 y1 HS5 HE5 HG5
  go_wp2_with fail
  refine (HRAll.out _ _ (HS6.out _).tabs (HS6.out _).lv).mono ?_
  rintro e w7 ⟨rfl, hb7⟩
  have HS7 : Hid (∀ o, St w (w7.alloc o) l O f (.slice la l.length lc) ov oo) := fun o => ((HS6.out _).next hb7).next ((Below.refl _ _).alloc (Nat.le_refl _) _)
  have HE7 : Hid (∀ o, Two (w7.alloc o) w4.heap.size ra.2) := fun o => ((HE6.out _).below hb7).below ((Below.refl _ _).alloc (Nat.le_refl _) _)
  have HG7 : Hid (∀ o, Two (w7.alloc o) w5.heap.size rt.2) := fun o => ((HG6.out _).below hb7).below ((Below.refl _ _).alloc (Nat.le_refl _) _)
  have HH7 : Hid (∀ o, Two (w7.alloc o) w6.heap.size rt.2) := fun o => (HH6.out.below hb7).below ((Below.refl _ _).alloc (Nat.le_refl _) _)
  have HK7 := hide (Two.new w7 w7.heap.size ra.2 rfl)
  clear hb7 HS6 HE6 HG6 HH6
  have HF7 : Hid (∀ o, o = Obj.cells #[.int .i64 ra.2.1, .int .i64 ra.2.2] 24 → Full w (w7.alloc o) l O f (.slice la l.length lc) ov oo w4.heap.size w5.heap.size w6.heap.size w7.heap.size ra.2 rt.2) := fun o ho => by subst ho; exact ⟨HS7.out _, HE7.out _, HG7.out _, HH7.out _, HK7.out⟩
  clear HS7 HE7 HG7 HH7 HK7
  go_wp2
  have HFD := hide ((HF7.out _ rfl).next (Below.drew (Below.refl _ _)))
  clear HF7
  generalize w4.heap.size = bE at *
  generalize w5.heap.size = bG at *
  generalize w6.heap.size = bH at *
  generalize w7.heap.size = bK at *
  have C1 : Hid (∀ W, Full w W l O f (.slice la l.length lc) ov oo bE bG bH bK ra.2 rt.2 → Calls Tryd.prog 18 #[ov, .slice la l.length lc] W fun e w' => e = .returned (.bool true) ∧ Hid (Full w w' l O f (.slice la l.length lc) ov oo bE bG bH bK ra.2 rt.2)) := fun W hW =>
    (samef_any l _ _ W (by omega) hW.st.ov hW.st.lv).mono fun e w' ⟨he, hb⟩ => ⟨he, hW.next hb⟩
  have C2 : Hid (∀ W, Full w W l O f (.slice la l.length lc) ov oo bE bG bH bK ra.2 rt.2 → Calls Tryd.prog 19 #[.slice la l.length lc] W fun e w' => ∃ ro, e = .returned ro ∧ Hid (Full w w' l O f (.slice la l.length lc) ov oo bE bG bH bK ra.2 rt.2) ∧ Hid (FSlice w' ro O)) := fun W hW =>
    (HROrd.out _ W hW.st.lv).mono fun e w' ⟨u, he, hown, hb⟩ => ⟨u, he, hW.next hb, FSlice.of_own hown⟩
  have C3 : Hid (∀ ro W, Full w W l O f (.slice la l.length lc) ov oo bE bG bH bK ra.2 rt.2 → FSlice W ro O → Calls Tryd.prog 18 #[oo, ro] W fun e w' => e = .returned (.bool true) ∧ Hid (Full w w' l O f (.slice la l.length lc) ov oo bE bG bH bK ra.2 rt.2) ∧ w'.cell? ⟨w.heap.size, 0, none⟩ = some (.int .i64 f.1)) := fun ro W hW hR =>
    (samef_any O _ _ W (by omega) hW.st.oo hR).mono fun e w' ⟨he, hb⟩ => ⟨he, hW.next hb, (hW.next hb).st.box.2.1⟩
  have C4 : Hid (∀ W, Full w W l O f (.slice la l.length lc) ov oo bE bG bH bK ra.2 rt.2 → Calls Tryd.prog 20 #[.int .i64 f.1] W fun e w' => e = .returned (.string (wordB f.1)) ∧ w' = W) := fun W hW => word_any f.1 W hW.st.tabs
  have C5 : Hid (∀ W, Full w W l O f (.slice la l.length lc) ov oo bE bG bH bK ra.2 rt.2 → Calls Tryd.prog 21 #[.int .i64 f.1] W fun e w' => e = .returned (.string (wordB f.1)) ∧ Hid (Below w.heap.size w w') ∧
      w'.cell? ⟨bE, 0, none⟩ = some (.int .i64 ra.2.1) ∧ w'.cell? ⟨bE, 1, none⟩ = some (.int .i64 ra.2.2) ∧ w'.cell? ⟨bG, 0, none⟩ = some (.int .i64 rt.2.1) ∧ w'.cell? ⟨bG, 1, none⟩ = some (.int .i64 rt.2.2) ∧
      w'.cell? ⟨bH, 0, none⟩ = some (.int .i64 rt.2.1) ∧ w'.cell? ⟨bH, 1, none⟩ = some (.int .i64 rt.2.2) ∧ w'.cell? ⟨bK, 0, none⟩ = some (.int .i64 ra.2.1) ∧ w'.cell? ⟨bK, 1, none⟩ = some (.int .i64 ra.2.2)) := fun W hW =>
    (rword_any f.1 W).mono fun e w' ⟨he, hb⟩ => ⟨he, (hW.next hb).st.below, (hW.next hb).e.2.1, (hW.next hb).e.2.2, (hW.next hb).g.2.1, (hW.next hb).g.2.2, (hW.next hb).h.2.1, (hW.next hb).h.2.2, (hW.next hb).k.2.1, (hW.next hb).k.2.2⟩
  clear HAll HRAll HTell HRTell HOrd HROrd HB2 HB1 HS3 HB HT HV HS d1 d2 h4 hs hl hOl z1 z2
  generalize (⟨ra.1.toArray⟩ : ByteArray) = A at *
  generalize Value.tuple #[Value.string A, Value.agg #[Value.int IntKind.i64 ra.2.1, Value.int IntKind.i64 ra.2.2]] = T1 at *
  generalize Value.tuple #[Value.string rt.1, Value.agg #[Value.int IntKind.i64 rt.2.1, Value.int IntKind.i64 rt.2.2]] = T2 at *
  go_region_with (first
    | (go_at_call_of 18 ov; refine (C1.out _ (by exact HFD.out)).mono ?_; rintro e wA ⟨rfl, HFA⟩)
    | (go_at_call 19; refine (C2.out _ (by exact HFA.out)).mono ?_; rintro e wB ⟨ro, rfl, HFB, HRo⟩)
    | (go_at_call_of 18 oo; refine (C3.out ro _ (by exact HFB.out) (by exact HRo.out)).mono ?_; rintro e wC ⟨rfl, HFC, k0⟩)
    | (go_at_call 20; refine (C4.out _ (by exact HFC.out)).mono ?_; rintro e wD ⟨rfl, rfl⟩)
    | (go_at_call 21; refine (C5.out _ (by exact HFC.out)).mono ?_; rintro e wE ⟨rfl, HBE, m1, m2, m3, m4, m5, m6, m7, m8⟩))
  all_goals go_wp2
  all_goals go_ret
  all_goals exact ⟨rfl, HBE.out⟩
end Go.Proofs.YtmenmlkclggjjaaDoor

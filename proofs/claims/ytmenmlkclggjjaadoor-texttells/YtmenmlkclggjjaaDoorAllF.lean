/- The contract of text.All: all faults told, in order, a line each; or the first fault in telling. -/
import Derived.Test.YtmenmlkclggjjaaDoorTellH
import Derived.Test.YtmenmlkclggjjaaDoorBuild
import Derived.Test.YtmenmlkclggjjaaDoorOrderF
namespace Go.Proofs.YtmenmlkclggjjaaDoor
open Go.RowKit

/-- All told, one behind the other, each ended by a newline. -/
def allL (s : ByteArray) : List (Int × Int) → List UInt8 → List UInt8 × (Int × Int)
  | [], acc => (acc, (0, 0))
  | f :: r, acc => if (tellF s f).2.1 ≠ 0 then ([], (tellF s f).2) else allL s r (acc ++ (tellF s f).1.data.toList ++ [10])

theorem tellF_size (s : ByteArray) (f : Int × Int) : (tellF s f).1.size ≤ 60 := by
  unfold tellF
  split
  · exact (by decide : (⟨#[]⟩ : ByteArray).size ≤ 60)
  · split
    · exact (by decide : (⟨#[]⟩ : ByteArray).size ≤ 60)
    · obtain ⟨b1, b2, b3, b4⟩ := placeF_bound s f.2
      have h1 := numB_size _ b1 (by omega)
      have h2 := numB_size _ b3 (by omega)
      have h3 := wordB_size f.1
      simp only [ByteArray.size_append]
      have e1 : (⟨#[58]⟩ : ByteArray).size = 1 := rfl
      have e2 : (⟨#[32]⟩ : ByteArray).size = 1 := rfl
      omega

theorem allL_step (s : ByteArray) (O : List (Int × Int)) (k : Nat) (hk : k < O.length) (acc : List UInt8) (h : (tellF s (O[k]?.getD (0, 0))).2.1 = 0) :
    allL s (O.drop k) acc = allL s (O.drop (k + 1)) (acc ++ (tellF s (O[k]?.getD (0, 0))).1.data.toList ++ [10]) := by
  rw [List.drop_eq_getElem_cons hk, List.getElem?_eq_getElem hk] at *
  simp only [Option.getD_some] at h ⊢
  rw [allL, if_neg (by simpa using h)]
theorem allL_stop (s : ByteArray) (O : List (Int × Int)) (k : Nat) (hk : k < O.length) (acc : List UInt8) (h : (tellF s (O[k]?.getD (0, 0))).2.1 ≠ 0) :
    allL s (O.drop k) acc = ([], (tellF s (O[k]?.getD (0, 0))).2) := by
  rw [List.drop_eq_getElem_cons hk, List.getElem?_eq_getElem hk] at *
  simp only [Option.getD_some] at h ⊢
  rw [allL, if_pos h]
theorem allL_end (s : ByteArray) (O : List (Int × Int)) (acc : List UInt8) : allL s (O.drop O.length) acc = (acc, (0, 0)) := by simp [allL]

/-- A builder is what it was where old memory is. -/
theorem builder_below {B b : Nat} {bs : List Value} {w w' : World} (h : Lib.IsBuilder 49 5 B b bs w) (hb : Below w.heap.size w w') : Lib.IsBuilder 49 5 B b bs w' := by
  have key : ∀ p, Lib.BuilderAt 49 5 B b p bs w → Lib.BuilderAt 49 5 B b p bs w' := by
    rintro p ⟨hB, v, hbk, hown, hne⟩
    have hlt : b < w.heap.size := (Array.getElem?_eq_some_iff.1 hbk).1
    exact ⟨hB, v, (hb.block b hlt).trans hbk, hown.kept (below_grown hb) (by cases hv : v.ownBlock <;> simp), hne⟩
  rcases h with h | h
  · exact .inl (key _ h)
  · exact .inr (key _ h)

/-- A row that is no row of bytes stays where a builder is written. -/
theorem own_kept {w w' : World} {B b : Nat} {e : TypeId} {size : Nat} {v : Value} {n : Nat} {xs : List Value} (h : w.ownsRow B e size v n xs) (hk : Lib.OthersKept 5 (some b) w w') (he : e ≠ 5) (hbt : ∃ c fr, w.heap[b]? = some (.cells c 49 fr)) (he2 : e ≠ 49) : w'.ownsRow B e size v n xs := by
  refine ⟨h.1, ?_⟩
  rcases h.2 with hn | ⟨g, cap, cur, rfl, hb, hgg, rest⟩
  · exact .inl hn
  · refine .inr ⟨g, cap, cur, rfl, hb, ?_, rest⟩
    refine hk g _ hgg ?_ ?_
    · intro e1
      obtain ⟨c, fr, hc⟩ := hbt
      rw [← Option.some.inj e1, hgg] at hc
      simp only [Option.some.injEq, Obj.cells.injEq] at hc
      exact he2 hc.2.1
    · intro c fz e1
      simp only [Obj.cells.injEq] at e1
      exact he e1.2.1

theorem row_kept {s : ByteArray} {w w' : World} {B b : Nat} {v : Value} (h : RowOf s B w v) (hk : Lib.OthersKept 5 (some b) w w') (hbt : ∃ c fr, w.heap[b]? = some (.cells c 49 fr)) : RowOf s B w' v := by
  rcases h with ⟨h1, h2⟩ | h
  · exact .inl ⟨h1, own_kept h2 hk (by decide) hbt (by decide)⟩
  · exact .inr h

theorem Tabs.below' {w w' : World} {B : Nat} (h : Tabs w) (hb : Below B w w') (hB : 4 ≤ B) (hB2 : B ≤ w.heap.size) : Tabs w' := by
  refine ⟨fun i b hi => (hb.cell (p := ⟨0, i, none⟩) (by show 0 < B; omega)).trans (h.words i b hi), var?_below hb gPow (by omega) h.pow, by have := hb.size; omega⟩

theorem builder_type {B b : Nat} {p : Value} {bs : List Value} {w : World} (h : Lib.BuilderAt 49 5 B b p bs w) : ∃ c fr, w.heap[b]? = some (.cells c 49 fr) := by
  obtain ⟨_, v, hbk, _⟩ := h
  exact ⟨_, _, hbk⟩
theorem isBuilder_type {B b : Nat} {bs : List Value} {w : World} (h : Lib.IsBuilder 49 5 B b bs w) : ∃ c fr, w.heap[b]? = some (.cells c 49 fr) := by
  rcases h with h | h
  · exact builder_type h
  · exact builder_type h

/-- What holds at the head of a round. -/
structure AllAt (s : ByteArray) (O : List (Int × Int)) (w : World) (B bp : Nat) (v u : Value) (acc : List UInt8) (wr : World) : Prop where
  build : Lib.IsBuilder 49 5 bp bp (Lib.byteCells acc) wr
  lines : RowOf s B wr v
  own : wr.ownsRow bp 24 2 u O.length (fcells O)
  tabs : Tabs wr
  res : Res wr w.heap.size
  below : Below w.heap.size w wr
  lt : bp < wr.heap.size
  low : w.heap.size < bp
  four : 4 ≤ w.heap.size

theorem AllAt.next {s : ByteArray} {O : List (Int × Int)} {w : World} {B bp : Nat} {v u : Value} {acc : List UInt8} {wr w' : World} (h : AllAt s O w B bp v u acc wr) (hb : Below wr.heap.size wr w') : AllAt s O w B bp v u acc w' :=
  ⟨builder_below h.build hb, h.lines.below hb, h.own.kept (below_grown hb) (by cases hv : u.ownBlock <;> simp), h.tabs.below hb, h.res.below hb (by have := h.lt; have := h.low; omega), h.below.trans (hb.mono (by have := h.lt; have := h.low; omega)), by have := hb.size; have := h.lt; omega, h.low, h.four⟩

theorem AllAt.write {s : ByteArray} {O : List (Int × Int)} {w : World} {B bp : Nat} {v u : Value} {acc acc' : List UInt8} {wr w' : World} (h : AllAt s O w B bp v u acc wr)
    (hbu : Lib.BuilderAt 49 5 bp bp (.pointer (some ⟨bp, 0, none⟩)) (Lib.byteCells acc') w') (hb : Below bp wr w') (hk : Lib.OthersKept 5 (some bp) wr w') : AllAt s O w B bp v u acc' w' := by
  have hw4 : 4 ≤ bp := by have := h.low; have := h.four; omega
  exact ⟨.inr hbu, row_kept h.lines hk (isBuilder_type h.build), own_kept h.own hk (by decide) (isBuilder_type h.build) (by decide), h.tabs.below' hb hw4 (by have := h.lt; omega), h.res.below hb h.low, h.below.trans (hb.mono (by have := h.low; omega)), by have := hb.size; have := h.lt; omega, h.low, h.four⟩

theorem FSlice.open_len {w : World} {v : Value} {l : List (Int × Int)} (h : FSlice w v l) : ∃ a cap, v = .slice a l.length cap ∧ True := by
  rcases h with ⟨rfl, a, cap, rfl⟩ | ⟨_, b, off, cap, rfl, _, _⟩
  · exact ⟨a, cap, rfl, trivial⟩
  · exact ⟨_, cap, rfl, trivial⟩
theorem own_mono {w : World} {B B' : Nat} {e : TypeId} {size : Nat} {v : Value} {n : Nat} {xs : List Value} (h : w.ownsRow B e size v n xs) (hB : B' ≤ B) : w.ownsRow B' e size v n xs := by
  refine ⟨h.1, ?_⟩
  rcases h.2 with hn | ⟨g, cap, cur, hv, hb, rest⟩
  · exact .inl hn
  · exact .inr ⟨g, cap, cur, hv, by omega, rest⟩
theorem builder_new (w : World) (b : Nat) (hb : b = w.heap.size) : Lib.IsBuilder 49 5 b b (Lib.byteCells []) (w.alloc (.cells #[.pointer none, .slice none 0 0] 49)) := by
  subst hb
  exact .inl ⟨Nat.le_refl _, .slice none 0 0, heap_alloc_new w _, World.ownsRow_nil _ _ _ _, by simp [Value.ownBlock]⟩

theorem cells_snoc (acc t : List UInt8) : Lib.byteCells acc ++ Lib.byteCells t = Lib.byteCells (acc ++ t) := by simp [Lib.byteCells]
theorem str_cells (b : ByteArray) : Lib.strCells b = Lib.byteCells b.data.toList := rfl

set_option maxRecDepth 100000 in
set_option maxHeartbeats 2000000 in
theorem all_any (s : ByteArray) (l : List (Int × Int)) (lv : Value) (w : World) (hs : s.size ≤ maxLen) (hl : l.length ≤ 300) (hT : Tabs w) (hv : FSlice w lv l) :
    Calls Tryd.prog 14 #[.string s, lv] w fun e w' => e = .returned (.tuple #[.string ⟨(allL s (Pl.ord l) []).1.toArray⟩, .agg #[.int .i64 (allL s (Pl.ord l) []).2.1, .int .i64 (allL s (Pl.ord l) []).2.2]]) ∧ Below w.heap.size w w' := by
  have HS := hide hs
  have HT := hide hT
  have HV := hide hv
  have h4 := hT.size
  have hOl : (Pl.ord l).length ≤ l.length := Pl.ordTo_len l l.length
  have HOrd := hide (fun W hW => order_any l lv W hl hW)
  have HRS : Hid (allL s ((Pl.ord l).drop 0) [] = allL s (Pl.ord l) []) := rfl
  generalize Pl.ord l = O at *
  generalize allL s O [] = RES at *
  clear hT hv
  unfold maxLen at hs
  go_enter Tryd.func14, Tryd.ntmps14
  go_wp2_with fail
  refine (lines_any s _ HS.out).mono ?_
  rintro e w1 ⟨v, rfl, hr, hb1⟩
  have hz1 : w.heap.size < w1.heap.size := by have := hb1.size; simp at this; omega
  have HRes := hide ((Res.new w w.heap.size rfl).below hb1 (by simp))
  have HB1 := hide (((Below.refl _ _).alloc (Nat.le_refl _) _).trans (hb1.mono (by simp)) : Below w.heap.size w w1)
  have HR := hide hr
  clear hr
  go_wp2_with fail
  refine (HOrd.out _ (HV.out.below (HB1.out.alloc (by omega) _))).mono ?_
  rintro e w2 ⟨u, rfl, hown, hb2⟩
  have HA0 : Hid (AllAt s O w (w.alloc (.cells #[.int .i64 0, .int .i64 0] 24)).heap.size w1.heap.size v u [] w2) := by
    have hba : Below w1.heap.size w1 (w1.alloc (.cells #[.pointer none, .slice none 0 0] 49)) := (Below.refl _ _).alloc (Nat.le_refl _) _
    have hz2 := hb2.size
    simp at hz2
    exact ⟨builder_below (builder_new w1 _ rfl) hb2, (HR.out.below hba).below hb2, own_mono hown (by simp), (HT.out.below (HB1.out.alloc (by omega) _)).below hb2, (HRes.out.below hba hz1).below hb2 (by simp; omega), (HB1.out.alloc (by omega) _).trans (hb2.mono (by simp; omega)), by omega, hz1, h4⟩
  obtain ⟨ua, cu, rfl, _⟩ := (FSlice.of_own hown).open_len
  clear hown hb2 hb1
  generalize (w.alloc (.cells #[.int .i64 0, .int .i64 0] 24)).heap.size = B1 at *
  generalize w1.heap.size = bp at *
  go_wp2
  go_loopw [17] (fun i wr => ∃ (k : Nat) (acc : List UInt8), k ≤ O.length ∧ i = .int .i64 k ∧ acc.length ≤ k * 61 ∧ Hid (AllAt s O w B1 bp v (.slice ua O.length cu) acc wr) ∧ Hid (allL s (O.drop k) acc = RES)) (fun i _ => O.length - (intOf i).toNat)
  case atStart => exact ⟨0, [], Nat.zero_le _, rfl, by simp, HA0, HRS⟩
  case round =>
    obtain ⟨k, acc, hk, rfl, hacc, HA, HE⟩ := hrel
    clear HA0 HRS HRes HB1 HR
    by_cases hlt : k < O.length
    · obtain ⟨g, cap, hgv, _, hg, _, _, hF⟩ := own_fat HA.out.own (by omega)
      simp only [Value.slice.injEq] at hgv
      obtain ⟨rfl, _, rfl⟩ := hgv
      obtain ⟨c0, c1⟩ := hF k hlt
      simp only [Nat.zero_add] at c0 c1
      have hstep := allL_step s O k hlt acc
      have hstop := allL_stop s O k hlt acc
      have hts := tellF_size s (O[k]?.getD (0, 0))
      have htl : (tellF s (O[k]?.getD (0, 0))).1.data.toList.length ≤ 60 := by simpa using hts
      have HTell := hide (fun W hr hW => tell_among s v B1 (O[k]?.getD (0, 0)) W hr hW)
      generalize O[k]?.getD (0, 0) = x at *
      generalize tellF s x = tt at *
      have HSt := hide hstep
      have HSp := hide hstop
      clear hF hstep hstop
      have HA1 : Hid (∀ o, AllAt s O w B1 bp v (.slice (some ⟨g, 0, none⟩) O.length cu) acc (wr.alloc o)) := fun o => HA.out.next ((Below.refl _ _).alloc (Nat.le_refl _) _)
      go_wp2_with fail
      refine (HTell.out _ (HA1.out _).lines (HA1.out _).tabs).mono ?_
      rintro e w3 ⟨rfl, hb3⟩
      have HA3 := hide ((HA1.out _).next hb3)
      clear hb3
      by_cases hbad : tt.2.1 = 0
      · have hb0 : (tt.2.1 != 0) = false := by simpa using hbad
        have hE := HE.out
        rw [HSt.out hbad] at hE
        have HE2 := hide hE
        clear hE hbad HSt HSp HE
        have HA4 : Hid (∀ o, AllAt s O w B1 bp v (.slice (some ⟨g, 0, none⟩) O.length cu) acc (w3.alloc o)) := fun o => HA3.out.next ((Below.refl _ _).alloc (Nat.le_refl _) _)
        go_wp2_with fail
        refine (writeString_any bp bp _ tt.1 _ (HA4.out _).build (by rw [Lib.byteCells_length]; omega) (by have := (HA4.out (Obj.cells #[Value.int IntKind.i64 tt.snd.fst, Value.int IntKind.i64 tt.snd.snd] 24)).lt; omega)).mono ?_
        rintro e w5 ⟨rfl, hbu5, hb5, hk5⟩
        rw [str_cells, cells_snoc] at hbu5
        have HA5 := hide ((HA4.out _).write hbu5 hb5 hk5)
        clear hbu5 hb5 hk5
        go_wp2_with fail
        refine (writeByte_any bp bp _ 10 _ HA5.out.build (by rw [Lib.byteCells_length, List.length_append]; omega) (by have := HA5.out.lt; omega)).mono ?_
        rintro e w6 ⟨rfl, hbu6, hb6, hk6⟩
        have e10 : [Value.int .u8 10] = Lib.byteCells [10] := rfl
        rw [e10, cells_snoc] at hbu6
        have HA6 := hide (HA5.out.write hbu6 hb6 hk6)
        clear hbu6 hb6 hk6 e10
        go_wp2
        go_roundw
        case rel => exact ⟨k + 1, acc ++ tt.1.data.toList ++ [10], by omega, by go_num, by rw [List.length_append, List.length_append, List.length_singleton]; omega, HA6, HE2⟩
        case measure => simp [intOf]; omega
      · have hb0 : (tt.2.1 != 0) = true := by simpa using hbad
        have hE := HE.out
        rw [HSp.out hbad] at hE
        have HE2 := hide hE
        obtain ⟨r0, r1, r2, r3⟩ := HA3.out.res
        have hz3 : w.heap.size < w3.heap.size := by have := HA3.out.lt; have := HA3.out.low; omega
        clear hE hbad HSt HSp HE
        go_wp2
        go_region
        go_wp2
        have hRES := HE2.out
        subst hRES
        exact bodyPost_ret (v := .tuple #[.string ⟨#[]⟩, .agg #[.int .i64 tt.2.1, .int .i64 tt.2.2]]) (by simp [results, Tryd.results14, go_sem, r0, r1, hz3]) rfl ⟨rfl, by repeat (first | exact HA3.out.below | refine Below.drew ?_ | refine Below.alloc ?_ (by simp [World.setCell]; omega) _ | refine Below.setCell ?_ (by simp) _)⟩
    · obtain rfl : k = O.length := by omega
      have hE := HE.out
      rw [allL_end] at hE
      have HE2 := hide hE
      clear hE HE
      go_wp2_with fail
      refine (Tryd.Builder_String_any bp bp acc _ HA.out.build (by have := HA.out.lt; omega)).mono ?_
      rintro e w7 ⟨rfl, hb7⟩
      obtain ⟨r0, r1, r2, r3⟩ := HA.out.res.below hb7 HA.out.low
      have HB7 := hide (HA.out.below.trans (hb7.mono (by have := HA.out.low; omega)))
      clear hb7
      go_wp2
      have hRES := HE2.out
      subst hRES
      exact bodyPost_ret (v := .tuple #[.string ⟨acc.toArray⟩, .agg #[.int .i64 0, .int .i64 0]]) (by simp [results, Tryd.results14, go_sem, r0, r1]) rfl ⟨rfl, by repeat (first | exact HB7.out | refine Below.drew ?_ | refine Below.setCell ?_ (by simp) _)⟩
end Go.Proofs.YtmenmlkclggjjaaDoor

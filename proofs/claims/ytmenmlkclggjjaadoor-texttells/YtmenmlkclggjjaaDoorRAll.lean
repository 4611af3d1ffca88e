/- The contract of the document's own All. -/
import Derived.Test.YtmenmlkclggjjaaDoorROrder
namespace Go.Proofs.YtmenmlkclggjjaaDoor
open Go.RowKit

theorem own_below {w w' : World} {B : Nat} {e : TypeId} {size : Nat} {v : Value} {n : Nat} {xs : List Value} (h : w.ownsRow B e size v n xs) (hb : Below w.heap.size w w') : w'.ownsRow B e size v n xs :=
  h.kept (below_grown hb) (by cases hv : v.ownBlock <;> simp)

/-- What holds at the head of a round. -/
structure RAllAt (O : List (Int × Int)) (w : World) (u : Value) (wr : World) : Prop where
  own : wr.ownsRow w.heap.size 24 2 u O.length (fcells O)
  tabs : Tabs wr
  res : Res wr w.heap.size
  below : Below w.heap.size w wr
  lt : w.heap.size < wr.heap.size
theorem RAllAt.next {O : List (Int × Int)} {w : World} {u : Value} {wr w' : World} (h : RAllAt O w u wr) (hb : Below wr.heap.size wr w') : RAllAt O w u w' :=
  ⟨own_below h.own hb, h.tabs.below hb, h.res.below hb h.lt, h.below.trans (hb.mono (by have := h.lt; omega)), by have := hb.size; have := h.lt; omega⟩

set_option maxRecDepth 100000 in
set_option maxHeartbeats 2000000 in
theorem rall_any (s : ByteArray) (l : List (Int × Int)) (lv : Value) (w : World) (hs : s.size ≤ maxLen) (hl : l.length ≤ 300) (hT : Tabs w) (hv : FSlice w lv l) :
    Calls Tryd.prog 17 #[.string s, lv] w fun e w' => e = .returned (.tuple #[.string ⟨(allL s (Pl.ord l) []).1.toArray⟩, .agg #[.int .i64 (allL s (Pl.ord l) []).2.1, .int .i64 (allL s (Pl.ord l) []).2.2]]) ∧ Below w.heap.size w w' := by
  have HS := hide hs
  have HT := hide hT
  have HV := hide hv
  have hOl : (Pl.ord l).length ≤ l.length := Pl.ordTo_len l l.length
  have HOrd := hide (fun W hW => rorder_any l lv W hl hW)
  have HRS : Hid (allL s ((Pl.ord l).drop 0) [] = allL s (Pl.ord l) []) := rfl
  generalize Pl.ord l = O at *
  generalize allL s O [] = RES at *
  clear hT hv
  unfold maxLen at hs
  go_enter Tryd.func17, Tryd.ntmps17
  go_wp2_with fail
  refine (HOrd.out _ (HV.out.below ((Below.refl _ _).alloc (Nat.le_refl _) _))).mono ?_
  rintro e w2 ⟨u, rfl, hown, hb2⟩
  have HA0 : Hid (RAllAt O w u w2) := by
    have hba : Below w.heap.size w (w.alloc (.cells #[.int .i64 0, .int .i64 0] 24)) := (Below.refl _ _).alloc (Nat.le_refl _) _
    have hz2 := hb2.size
    simp at hz2
    exact ⟨own_mono hown (by simp), (HT.out.below hba).below hb2, (Res.new w _ rfl).below hb2 (by simp), hba.trans (hb2.mono (by simp)), by omega⟩
  obtain ⟨ua, cu, rfl, _⟩ := (FSlice.of_own hown).open_len
  clear hown hb2
  go_wp2
  go_loopw [6, 8] (fun o i wr => ∃ (k : Nat) (acc : ByteArray), k ≤ O.length ∧ i = .int .i64 k ∧ o = .string acc ∧ acc.size ≤ k * 61 ∧ Hid (RAllAt O w (.slice ua O.length cu) wr) ∧ Hid (allL s (O.drop k) acc.data.toList = RES)) (fun _ i _ => O.length - (intOf i).toNat)
  case atStart => exact ⟨0, ⟨#[]⟩, Nat.zero_le _, rfl, rfl, by simp [ByteArray.size], HA0, HRS⟩
  case round =>
    obtain ⟨k, acc, hk, rfl, rfl, hacc, HA, HE⟩ := hrel
    clear HA0 HRS
    by_cases hlt : k < O.length
    · obtain ⟨g, cap, hgv, _, hg, _, _, hF⟩ := own_fat HA.out.own (by omega)
      simp only [Value.slice.injEq] at hgv
      obtain ⟨rfl, _, rfl⟩ := hgv
      obtain ⟨c0, c1⟩ := hF k hlt
      simp only [Nat.zero_add] at c0 c1
      have hstep := allL_step s O k hlt acc.data.toList
      have hstop := allL_stop s O k hlt acc.data.toList
      have hts := tellF_size s (O[k]?.getD (0, 0))
      have HTell := hide (fun W hW => rtell_any s (O[k]?.getD (0, 0)) W HS.out hW)
      generalize O[k]?.getD (0, 0) = x at *
      generalize tellF s x = tt at *
      have HSt := hide hstep
      have HSp := hide hstop
      clear hF hstep hstop
      go_wp2_with fail
      refine (HTell.out _ HA.out.tabs).mono ?_
      rintro e w3 ⟨rfl, hb3⟩
      have HA3 := hide (HA.out.next hb3)
      clear hb3
      by_cases hbad : tt.2.1 = 0
      · have hb0 : (tt.2.1 != 0) = false := by simpa using hbad
        have hE := HE.out
        rw [HSt.out hbad] at hE
        have HE2 : Hid (allL s (O.drop (k + 1)) (acc ++ (tt.1 ++ ⟨#[10]⟩)).data.toList = RES) := by
          rw [← hE]
          unfold Hid
          simp
        clear hE hbad HSt HSp HE
        have HA4 : Hid (∀ o, RAllAt O w (.slice (some ⟨g, 0, none⟩) O.length cu) (w3.alloc o)) := fun o => HA3.out.next ((Below.refl _ _).alloc (Nat.le_refl _) _)
        have hsz : (acc ++ (tt.1 ++ ⟨#[10]⟩)).size ≤ (k + 1) * 61 := by
          rw [ByteArray.size_append, ByteArray.size_append]
          have e1 : (⟨#[10]⟩ : ByteArray).size = 1 := rfl
          omega
        have HSz := hide hsz
        clear hsz
        go_wp2
        go_roundw
        case rel => exact ⟨k + 1, acc ++ (tt.1 ++ ⟨#[10]⟩), by omega, by go_num, rfl, HSz.out, HA4.out _, HE2⟩
        case measure => simp [intOf]; omega
      · have hb0 : (tt.2.1 != 0) = true := by simpa using hbad
        have hE := HE.out
        rw [HSp.out hbad] at hE
        have HE2 := hide hE
        obtain ⟨r0, r1, r2, r3⟩ := HA3.out.res
        have hz3 := HA3.out.lt
        clear hE hbad HSt HSp HE
        go_wp2
        go_region
        go_wp2
        have hRES := HE2.out
        subst hRES
        exact bodyPost_ret (v := .tuple #[.string ⟨#[]⟩, .agg #[.int .i64 tt.2.1, .int .i64 tt.2.2]]) (by simp [results, Tryd.results17, go_sem, r0, r1, hz3]) rfl ⟨rfl, by repeat (first | exact HA3.out.below | refine Below.drew ?_ | refine Below.alloc ?_ (by simp [World.setCell]; omega) _ | refine Below.setCell ?_ (by simp) _)⟩
    · obtain rfl : k = O.length := by omega
      have hE := HE.out
      rw [allL_end] at hE
      have HE2 := hide hE
      obtain ⟨r0, r1, r2, r3⟩ := HA.out.res
      clear hE HE
      go_wp2
      have hRES := HE2.out
      subst hRES
      exact bodyPost_ret (v := .tuple #[.string acc, .agg #[.int .i64 0, .int .i64 0]]) (by simp [results, Tryd.results17, go_sem, r0, r1]) rfl ⟨rfl, by repeat (first | exact HA.out.below | refine Below.drew ?_ | refine Below.setCell ?_ (by simp) _)⟩
end Go.Proofs.YtmenmlkclggjjaaDoor

/- Contracts: what is told of one fault, by both packages. -/
import Derived.Test.YtmenmlkclggjjaaDoorTellF
namespace Go.Proofs.YtmenmlkclggjjaaDoor
open Go.RowKit

/-- Line, column and fault of a place. -/
def placeF (s : ByteArray) (a : Int) : (Int × Int) × (Int × Int) :=
  if 12000 < s.size then ((0, 0), (1, -1)) else if a < 0 ∨ (s.size : Int) < a then ((0, 0), (14, -1))
  else (((Pl.begs s.data.toList a.toNat).length, ((a.toNat - Pl.last s.data.toList a.toNat : Nat) : Int) + 1), (0, 0))

theorem placeF_bound (s : ByteArray) (a : Int) : 0 ≤ (placeF s a).1.1 ∧ (placeF s a).1.1 ≤ 12001 ∧ 0 ≤ (placeF s a).1.2 ∧ (placeF s a).1.2 ≤ 12001 := by
  unfold placeF
  split
  · simp
  · split
    · simp
    · have := Pl.begs_len s.data.toList a.toNat
      simp only []
      omega

theorem among_any (s : ByteArray) (v : Value) (B : Nat) (a : Int) (w : World) (hr : RowOf s B w v) :
    Calls Tryd.prog 22 #[v, .int .i64 s.size, .int .i64 a] w fun e w' => e = .returned (.tuple #[.int .i64 (placeF s a).1.1, .int .i64 (placeF s a).1.2, .agg #[.int .i64 (placeF s a).2.1, .int .i64 (placeF s a).2.2]]) ∧ Below w.heap.size w w' := by
  unfold placeF
  rcases hr with ⟨h1, hown⟩ | ⟨h1, rfl⟩
  · rw [if_neg (by omega)]
    obtain ⟨g, cap, rfl, _, hg, _, _, hcell⟩ := own_cells hown (Pl.begs_pos _ _)
    by_cases h2 : a < 0 ∨ (s.size : Int) < a
    · rw [if_pos h2]
      exact among_range _ _ _ _ _ _ h1 h2
    · rw [if_neg h2]
      obtain ⟨k, rfl⟩ := Int.eq_ofNat_of_zero_le (show 0 ≤ a by omega)
      have hk : k ≤ s.size := by omega
      have hlen := Pl.begs_len s.data.toList s.size
      refine (among_in (Pl.begs s.data.toList s.size) g cap s.size k _ h1 hk (by omega) hg hcell (begs_up _ _) (Pl.begs_pos _ _) (begs_zero _ _)).mono ?_
      rintro e w2 ⟨r, hr, hr0, hlo, hhi, rfl, hb⟩
      have hrr := Pl.found s.data.toList k s.size r hk hr hlo hhi
      subst hrr
      have hcol : ((k : Int) - (((Pl.begs s.data.toList s.size)[(Pl.begs s.data.toList k).length - 1]?.getD 0 : Nat) : Int) + 1) = (((k - Pl.last s.data.toList k : Nat) : Int) + 1) := by
        have h1 := Pl.begs_at_last s.data.toList k s.size hk
        have h2 := Pl.last_le s.data.toList k
        rw [h1]
        omega
      rw [hcol]
      exact ⟨rfl, hb⟩
  · rw [if_pos h1]
    exact among_size _ _ _ _ _ _ (by omega)

theorem rplace_any (s : ByteArray) (a : Int) (w : World) (hs : s.size ≤ maxLen) :
    Calls Tryd.prog 9 #[.string s, .int .i64 a] w fun e w' => e = .returned (.tuple #[.int .i64 (placeF s a).1.1, .int .i64 (placeF s a).1.2, .agg #[.int .i64 (placeF s a).2.1, .int .i64 (placeF s a).2.2]]) ∧ Below w.heap.size w w' := by
  unfold placeF
  by_cases h1 : 12000 < s.size
  · rw [if_pos h1]
    exact rplace_size s a w hs h1
  · rw [if_neg h1]
    by_cases h2 : a < 0 ∨ (s.size : Int) < a
    · rw [if_pos h2]
      exact rplace_range s a w (by omega) h2
    · rw [if_neg h2]
      obtain ⟨k, rfl⟩ := Int.eq_ofNat_of_zero_le (show 0 ≤ a by omega)
      exact rplace_in s k w (by omega) (by omega)

/-- A result's two cells, not yet written. -/
def Res (w : World) (b : Nat) : Prop := w.cell? ⟨b, 0, none⟩ = some (.int .i64 0) ∧ w.cell? ⟨b, 1, none⟩ = some (.int .i64 0) ∧ w.frozen? ⟨b, 0, none⟩ = false ∧ w.frozen? ⟨b, 1, none⟩ = false
theorem Res.below {w w' : World} {b B : Nat} (h : Res w b) (hb : Below B w w') (hlt : b < B) : Res w' b :=
  ⟨(hb.cell (p := ⟨b, 0, none⟩) hlt).trans h.1, (hb.cell (p := ⟨b, 1, none⟩) hlt).trans h.2.1, (hb.frozen (p := ⟨b, 0, none⟩) hlt).trans h.2.2.1, (hb.frozen (p := ⟨b, 1, none⟩) hlt).trans h.2.2.2⟩
theorem Res.new (w : World) (b : Nat) (hb : b = w.heap.size) : Res (w.alloc (.cells #[.int .i64 0, .int .i64 0] 24)) b := by
  subst hb
  exact ⟨by simp [go_sem], by simp [go_sem], by simp [go_sem], by simp [go_sem]⟩

/-- What is told of one fault. -/
def tellF (s : ByteArray) (f : Int × Int) : ByteArray × (Int × Int) :=
  if (placeF s f.2).2.1 ≠ 0 then (⟨#[]⟩, (placeF s f.2).2) else if (wordB f.1).toList.isEmpty = true then (⟨#[]⟩, (16, -1))
  else (numB (placeF s f.2).1.1 ++ ⟨#[58]⟩ ++ numB (placeF s f.2).1.2 ++ ⟨#[32]⟩ ++ wordB f.1, (0, 0))

set_option maxHeartbeats 1000000 in
theorem tell_among (s : ByteArray) (v : Value) (B : Nat) (f : Int × Int) (w : World) (hr : RowOf s B w v) (hT : Tabs w) :
    Calls Tryd.prog 28 #[v, .int .i64 s.size, .agg #[.int .i64 f.1, .int .i64 f.2]] w fun e w' => e = .returned (.tuple #[.string (tellF s f).1, .agg #[.int .i64 (tellF s f).2.1, .int .i64 (tellF s f).2.2]]) ∧ Below w.heap.size w w' := by
  unfold tellF
  have hbd := placeF_bound s f.2
  have hA := fun W hW => among_any s v B f.2 W hW
  have hws := wordB_size f.1
  generalize placeF s f.2 = p at *
  obtain ⟨⟨ln, cl⟩, ⟨c, d⟩⟩ := p
  obtain ⟨b1, b2, b3, b4⟩ := hbd
  simp only [] at b1 b2 b3 b4 ⊢
  have hn1 := numB_size ln b1 (by omega)
  have hn2 := numB_size cl b3 (by omega)
  have HA := hide hA
  have HT := hide hT
  have HR := hide hr
  clear hA hT hr
  have HB2 : Hid (∀ o1 o2, Below w.heap.size w ((w.alloc o1).alloc o2)) := fun o1 o2 => ((Below.refl _ _).alloc (Nat.le_refl _) _).alloc (by simp) _
  by_cases hc : c = 0
  · subst hc
    rw [if_neg (by simp)]
    cases hwe : (wordB f.1).toList.isEmpty with
    | true =>
      rw [if_pos rfl]
      go_enter Tryd.func28, Tryd.ntmps28
      go_wp2_with fail
      refine (HA.out _ (HR.out.below (HB2.out _ _))).mono ?_
      rintro e w1 ⟨rfl, hb1⟩
      have hcode : w1.cell? ⟨w.heap.size, 0, none⟩ = some (.int .i64 f.1) := (hb1.cell (p := ⟨w.heap.size, 0, none⟩) (by simp; omega)).trans (by simp [go_sem])
      have hres1 := (Res.new _ (w.heap.size + 1) (by simp)).below hb1 (by simp)
      have HRes := hide hres1
      clear hres1
      have hz1 : w.heap.size + 1 < w1.heap.size := by have := hb1.size; simp at this; omega
      have hz0 : w.heap.size < w1.heap.size := by omega
      have hB1 : Below w.heap.size w w1 := (HB2.out _ _).trans (hb1.mono (by simp; omega))
      have HB1 := hide hB1
      clear hB1
      go_wp2_with fail
      refine (word_any f.1 _ (HT.out.below (HB1.out.alloc (by omega) _))).mono ?_
      rintro e w2 ⟨rfl, rfl⟩
      go_wp2_with fail
      refine (unplaced_any _ _).mono ?_
      rintro e w3 ⟨rfl, hb3⟩
      have hz3 : w1.heap.size < w3.heap.size := by have := hb3.size; simp at this; omega
      obtain ⟨r0, r1, r2, r3⟩ := (HRes.out.below ((Below.refl _ w1).alloc (Nat.le_refl _) _) (by omega)).below hb3 (by simp; omega)
      clear hcode
      go_wp2
      exact bodyPost_ret (v := .tuple #[.string ⟨#[]⟩, .agg #[.int .i64 16, .int .i64 (-1)]]) (by simp [results, Tryd.results28, go_sem, r0, r1]) rfl ⟨rfl, (((HB1.out.alloc (by omega) _).trans (hb3.mono (by simp; omega))).setCell (by simp) _).setCell (by simp) _⟩
    | false =>
      rw [if_neg (by simp)]
      go_enter Tryd.func28, Tryd.ntmps28
      go_wp2_with fail
      refine (HA.out _ (HR.out.below (HB2.out _ _))).mono ?_
      rintro e w1 ⟨rfl, hb1⟩
      have hcode : w1.cell? ⟨w.heap.size, 0, none⟩ = some (.int .i64 f.1) := (hb1.cell (p := ⟨w.heap.size, 0, none⟩) (by simp; omega)).trans (by simp [go_sem])
      have hres1 := (Res.new _ (w.heap.size + 1) (by simp)).below hb1 (by simp)
      have HRes := hide hres1
      clear hres1
      have hz1 : w.heap.size + 1 < w1.heap.size := by have := hb1.size; simp at this; omega
      have hz0 : w.heap.size < w1.heap.size := by omega
      have hB1 : Below w.heap.size w w1 := (HB2.out _ _).trans (hb1.mono (by simp; omega))
      have HB1 := hide hB1
      clear hB1
      go_wp2_with fail
      refine (word_any f.1 _ (HT.out.below (HB1.out.alloc (by omega) _))).mono ?_
      rintro e w2 ⟨rfl, rfl⟩
      go_wp2_with fail
      refine (itoa_any ln _ b1 (by omega) (HT.out.below (HB1.out.alloc (by omega) _))).mono ?_
      rintro e w3 ⟨rfl, hb3⟩
      have hz3 : w1.heap.size < w3.heap.size := by have := hb3.size; simp at this; omega
      have hB3 : Below w.heap.size w w3 := (HB1.out.alloc (by omega) _).trans (hb3.mono (by simp; omega))
      have HB3 := hide hB3
      clear hB3
      go_wp2_with fail
      refine (itoa_any cl _ b3 (by omega) (HT.out.below HB3.out)).mono ?_
      rintro e w4 ⟨rfl, hb4⟩
      have hz4 : w3.heap.size ≤ w4.heap.size := hb4.size
      obtain ⟨r0, r1, r2, r3⟩ := ((HRes.out.below ((Below.refl _ w1).alloc (Nat.le_refl _) _) (by omega)).below hb3 (by simp; omega)).below hb4 (by omega)
      clear hcode
      go_wp2
      exact bodyPost_ret (v := .tuple #[.string (numB ln ++ ⟨#[58]⟩ ++ numB cl ++ ⟨#[32]⟩ ++ wordB f.1), .agg #[.int .i64 0, .int .i64 0]]) (by simp [results, Tryd.results28, go_sem, r0, r1]) rfl ⟨rfl, by repeat (first | exact HB3.out.trans (hb4.mono (by omega)) | refine Below.drew ?_ | refine Below.setCell ?_ (by simp) _)⟩
  · rw [if_pos (by simpa using hc)]
    have hcb : (c != 0) = true := by simpa using hc
    go_enter Tryd.func28, Tryd.ntmps28
    go_wp2_with fail
    refine (HA.out _ (HR.out.below (HB2.out _ _))).mono ?_
    rintro e w1 ⟨rfl, hb1⟩
    obtain ⟨r0, r1, r2, r3⟩ := (Res.new _ (w.heap.size + 1) (by simp)).below hb1 (by simp)
    have hz1 : w.heap.size + 1 < w1.heap.size := by have := hb1.size; simp at this; omega
    have hB1 : Below w.heap.size w w1 := (HB2.out _ _).trans (hb1.mono (by simp; omega))
    have HB1 := hide hB1
    clear hB1
    go_wp2
    go_region
    go_wp2
    exact bodyPost_ret (v := .tuple #[.string ⟨#[]⟩, .agg #[.int .i64 c, .int .i64 d]]) (by simp [results, Tryd.results28, go_sem, r0, r1, hz1]) rfl ⟨rfl, (((HB1.out.setCell (by simp) _).setCell (by simp) _).alloc (by simp [World.setCell]; omega) _).drew⟩

set_option maxHeartbeats 1000000 in
theorem rtell_any (s : ByteArray) (f : Int × Int) (w : World) (hs : s.size ≤ maxLen) (hT : Tabs w) :
    Calls Tryd.prog 16 #[.string s, .agg #[.int .i64 f.1, .int .i64 f.2]] w fun e w' => e = .returned (.tuple #[.string (tellF s f).1, .agg #[.int .i64 (tellF s f).2.1, .int .i64 (tellF s f).2.2]]) ∧ Below w.heap.size w w' := by
  unfold tellF
  have hbd := placeF_bound s f.2
  have hA := fun W => rplace_any s f.2 W hs
  have hws := wordB_size f.1
  generalize placeF s f.2 = p at *
  obtain ⟨⟨ln, cl⟩, ⟨c, d⟩⟩ := p
  obtain ⟨b1, b2, b3, b4⟩ := hbd
  simp only [] at b1 b2 b3 b4 ⊢
  have hn1 := numB_size ln b1 (by omega)
  have hn2 := numB_size cl b3 (by omega)
  have HA := hide hA
  have HT := hide hT
  clear hA hT
  have HB2 : Hid (∀ o1 o2, Below w.heap.size w ((w.alloc o1).alloc o2)) := fun o1 o2 => ((Below.refl _ _).alloc (Nat.le_refl _) _).alloc (by simp) _
  by_cases hc : c = 0
  · subst hc
    rw [if_neg (by simp)]
    cases hwe : (wordB f.1).toList.isEmpty with
    | true =>
      rw [if_pos rfl]
      go_enter Tryd.func16, Tryd.ntmps16
      go_wp2_with fail
      refine (HA.out _).mono ?_
      rintro e w1 ⟨rfl, hb1⟩
      have hcode : w1.cell? ⟨w.heap.size, 0, none⟩ = some (.int .i64 f.1) := (hb1.cell (p := ⟨w.heap.size, 0, none⟩) (by simp; omega)).trans (by simp [go_sem])
      have HRes := hide ((Res.new _ (w.heap.size + 1) (by simp)).below hb1 (by simp))
      have hz1 : w.heap.size + 1 < w1.heap.size := by have := hb1.size; simp at this; omega
      have hz0 : w.heap.size < w1.heap.size := by omega
      have HB1 := hide ((HB2.out _ _).trans (hb1.mono (by simp; omega)))
      go_wp2_with fail
      refine (rword_any f.1 _).mono ?_
      rintro e w2 ⟨rfl, hb2⟩
      have hz2 : w1.heap.size < w2.heap.size := by have := hb2.size; simp at this; omega
      go_wp2_with fail
      refine (F_any _ _ _).mono ?_
      rintro e w3 ⟨rfl, hb3⟩
      have hz3 := hb3.size
      obtain ⟨r0, r1, r2, r3⟩ := ((HRes.out.below ((Below.refl _ w1).alloc (Nat.le_refl _) _) (by omega)).below hb2 (by simp; omega)).below hb3 (by omega)
      clear hcode
      go_wp2
      exact bodyPost_ret (v := .tuple #[.string ⟨#[]⟩, .agg #[.int .i64 16, .int .i64 (-1)]]) (by simp [results, Tryd.results16, go_sem, r0, r1]) rfl ⟨rfl, ((((HB1.out.alloc (by omega) _).trans (hb2.mono (by simp; omega))).trans (hb3.mono (by omega))).setCell (by simp) _).setCell (by simp) _⟩
    | false =>
      rw [if_neg (by simp)]
      go_enter Tryd.func16, Tryd.ntmps16
      go_wp2_with fail
      refine (HA.out _).mono ?_
      rintro e w1 ⟨rfl, hb1⟩
      have hcode : w1.cell? ⟨w.heap.size, 0, none⟩ = some (.int .i64 f.1) := (hb1.cell (p := ⟨w.heap.size, 0, none⟩) (by simp; omega)).trans (by simp [go_sem])
      have HRes := hide ((Res.new _ (w.heap.size + 1) (by simp)).below hb1 (by simp))
      have hz1 : w.heap.size + 1 < w1.heap.size := by have := hb1.size; simp at this; omega
      have hz0 : w.heap.size < w1.heap.size := by omega
      have HB1 := hide ((HB2.out _ _).trans (hb1.mono (by simp; omega)))
      go_wp2_with fail
      refine (rword_any f.1 _).mono ?_
      rintro e w2 ⟨rfl, hb2⟩
      have hz2 : w1.heap.size < w2.heap.size := by have := hb2.size; simp at this; omega
      have HB12 := hide ((HB1.out.alloc (by omega) _).trans (hb2.mono (by simp; omega)))
      clear hcode
      go_wp2_with fail
      refine (itoa_any ln _ b1 (by omega) (HT.out.below HB12.out)).mono ?_
      rintro e w3 ⟨rfl, hb3⟩
      have hz3 := hb3.size
      have HB3 := hide (HB12.out.trans (hb3.mono (by omega)))
      go_wp2_with fail
      refine (itoa_any cl _ b3 (by omega) (HT.out.below HB3.out)).mono ?_
      rintro e w4 ⟨rfl, hb4⟩
      have hz4 := hb4.size
      obtain ⟨r0, r1, r2, r3⟩ := (((HRes.out.below ((Below.refl _ w1).alloc (Nat.le_refl _) _) (by omega)).below hb2 (by simp; omega)).below hb3 (by omega)).below hb4 (by omega)
      go_wp2
      exact bodyPost_ret (v := .tuple #[.string (numB ln ++ ⟨#[58]⟩ ++ numB cl ++ ⟨#[32]⟩ ++ wordB f.1), .agg #[.int .i64 0, .int .i64 0]]) (by simp [results, Tryd.results16, go_sem, r0, r1]) rfl ⟨rfl, by repeat (first | exact HB3.out.trans (hb4.mono (by omega)) | refine Below.drew ?_ | refine Below.setCell ?_ (by simp) _)⟩
  · rw [if_pos (by simpa using hc)]
    have hcb : (c != 0) = true := by simpa using hc
    go_enter Tryd.func16, Tryd.ntmps16
    go_wp2_with fail
    refine (HA.out _).mono ?_
    rintro e w1 ⟨rfl, hb1⟩
    obtain ⟨r0, r1, r2, r3⟩ := (Res.new _ (w.heap.size + 1) (by simp)).below hb1 (by simp)
    have hz1 : w.heap.size + 1 < w1.heap.size := by have := hb1.size; simp at this; omega
    have HB1 := hide ((HB2.out _ _).trans (hb1.mono (by simp; omega)))
    go_wp2
    go_region
    go_wp2
    exact bodyPost_ret (v := .tuple #[.string ⟨#[]⟩, .agg #[.int .i64 c, .int .i64 d]]) (by simp [results, Tryd.results16, go_sem, r0, r1, hz1]) rfl ⟨rfl, (((HB1.out.setCell (by simp) _).setCell (by simp) _).alloc (by simp [World.setCell]; omega) _).drew⟩
end Go.Proofs.YtmenmlkclggjjaaDoor

/- Contracts: what is told of one fault, of a text alone. -/
import Derived.Test.YtmenmlkclggjjaaDoorTellG
import Derived.Deep.RegionWith
namespace Go.Proofs.YtmenmlkclggjjaaDoor
open Go.RowKit

theorem lines_at (s : ByteArray) (f : Int × Int) (w W : World) (hs : s.size ≤ maxLen) (hW : W = ((w.alloc (.cells #[.int .i64 f.1, .int .i64 f.2] 24)).alloc (.cells #[.int .i64 0, .int .i64 0] 24)).drew ∨ W = ((w.alloc (.cells #[.int .i64 f.1, .int .i64 f.2] 24)).alloc (.cells #[.int .i64 0, .int .i64 0] 24))) :
    Calls Tryd.prog 11 #[.string s] W fun e w1 => ∃ v B, e = .returned v ∧ Hid (RowOf s B w1 v) ∧ w1.cell? ⟨w.heap.size, 0, none⟩ = some (.int .i64 f.1) ∧ w1.cell? ⟨w.heap.size, 1, none⟩ = some (.int .i64 f.2) ∧ Hid (Res w1 (w.heap.size + 1)) ∧ w.heap.size + 1 < w1.heap.size ∧ Hid (Below w.heap.size w w1) := by
  refine (lines_any s W hs).mono ?_
  rintro e w1 ⟨v, rfl, hr, hb1⟩
  have hsz : W.heap.size = w.heap.size + 2 := by rcases hW with rfl | rfl <;> simp
  have h0 : W.cell? ⟨w.heap.size, 0, none⟩ = some (.int .i64 f.1) := by rcases hW with rfl | rfl <;> simp [go_sem]
  have h1 : W.cell? ⟨w.heap.size, 1, none⟩ = some (.int .i64 f.2) := by rcases hW with rfl | rfl <;> simp [go_sem]
  have hR : Res W (w.heap.size + 1) := by
    rcases hW with rfl | rfl
    · have h := Res.new (w.alloc (.cells #[.int .i64 f.1, .int .i64 f.2] 24)) (w.heap.size + 1) (by simp)
      exact ⟨h.1, h.2.1, h.2.2.1, h.2.2.2⟩
    · exact Res.new _ (w.heap.size + 1) (by simp)
  have hB : Below w.heap.size w W := by
    rcases hW with rfl | rfl
    · exact (((Below.refl _ _).alloc (Nat.le_refl _) _).alloc (by simp) _).drew
    · exact ((Below.refl _ _).alloc (Nat.le_refl _) _).alloc (by simp) _
  have hz := hb1.size
  exact ⟨v, _, rfl, hr, (hb1.cell (p := ⟨w.heap.size, 0, none⟩) (by show w.heap.size < W.heap.size; omega)).trans h0, (hb1.cell (p := ⟨w.heap.size, 1, none⟩) (by show w.heap.size < W.heap.size; omega)).trans h1, hR.below hb1 (by omega), by omega, hB.trans (hb1.mono (by omega))⟩

set_option maxHeartbeats 1000000 in
theorem tell_any (s : ByteArray) (f : Int × Int) (w : World) (hs : s.size ≤ maxLen) (hT : Tabs w) :
    Calls Tryd.prog 15 #[.string s, .agg #[.int .i64 f.1, .int .i64 f.2]] w fun e w' => e = .returned (.tuple #[.string (tellF s f).1, .agg #[.int .i64 (tellF s f).2.1, .int .i64 (tellF s f).2.2]]) ∧ Below w.heap.size w w' := by
  have HL := hide (lines_at s f w _ hs (.inl rfl))
  have HA := hide (fun v B W hr hW => tell_among s v B f W hr hW)
  have HT := hide hT
  clear hT
  unfold maxLen at hs
  generalize tellF s f = t at *
  go_enter Tryd.func15, Tryd.ntmps15
  go_wp2
  go_region_with (first
    | (go_at_call 11; refine HL.out.mono ?_; rintro e w1 ⟨v, B, rfl, HR, hc0, hc1, HRes, hz1, HB1⟩)
    | (go_at_call 28; refine (HA.out v B _ (by exact HR.out) (by exact HT.out.below HB1.out)).mono ?_; rintro e w2 ⟨rfl, hb2⟩; obtain ⟨r0, r1, r2, r3⟩ := HRes.out.below hb2 (by omega); clear hc0 hc1))
  all_goals go_wp2
  all_goals exact bodyPost_ret (v := .tuple #[.string t.1, .agg #[.int .i64 t.2.1, .int .i64 t.2.2]]) (by simp [results, Tryd.results15, go_sem, r0, r1]) rfl ⟨rfl, by repeat (first | exact HB1.out.trans (hb2.mono (by omega)) | refine Below.drew ?_ | refine Below.setCell ?_ (by simp) _)⟩
end Go.Proofs.YtmenmlkclggjjaaDoor
